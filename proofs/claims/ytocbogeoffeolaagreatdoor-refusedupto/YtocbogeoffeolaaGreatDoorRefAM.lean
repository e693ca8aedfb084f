import Derived.Test.YtocbogeoffeolaaGreatDoorRefAL
set_option linter.all false
set_option maxHeartbeats 8000000
set_option maxRecDepth 1000000
open Go renaming maxLen->cc,yielded->ch,Calls->cp,results->cs,FuncId->cx
open Go.Region renaming wanted->c0
open Go.RowKit renaming Hid->c4
open ByteArray renaming size_append->c5
open Nat renaming le_succ->dd,le_of_succ_le->dm
open Bool renaming and_assoc->eq,eq_iff_iff->ex
open Array renaming length_toList->fb,size->ff
open Go renaming undef->fr
namespace Go.Proofs.YtocbogeoffeolaaGreatDoor
open Go.Proofs.Tryz
section
open Go.Conc Go.RowKit Go.Maps
def uT(w0 w:World)(b W:Nat)(K:List qX):Prop:=5<=w0.heap.size/\∃(O U:Nat->Prop)(B:List gu)(ss:List (List gu)),AW w0 w O U b B ss []/\WB w0 w O U b W K/\Sk K B ss
theorem uT.low{w0 w w':World}{b W:Nat}{K:List qX}(h:uT w0 w b W K)(O:qN w w'):uT w0 w' b W K:=by
 obtain⟨U,Y,F2,B,ss,h1,h2,h3⟩:=h;exact⟨U,Y,F2,B,ss,h1.same O,h2.low O,h3⟩
theorem uT.cell{w0 w:World}{b W:Nat}{K:List qX}(h:uT w0 w b W K):w.cell? ⟨W,0,none⟩=some (.pointer (some ⟨b,0,none⟩)):=by
 obtain⟨U,Y,F2,B,ss,h1,O,h3⟩:=h;rw[gq O.blk,pb];rfl
def xG(K:List qX)(mode:Nat)(B:ByteArray)(gK most:Nat):List Wd:=(xX (Uk K) mode B.data.toList gK most).1
def Ae(w:World)(v:Value)(xs:List Wd):Prop:=vv w 1 v xs.length (gr xs)
theorem Ae.low{w w':World}{v:Value}{xs:List Wd}(h:Ae w v xs)(B:qN w w'):Ae w' v xs:=vv.low h B
structure qq(w0 w:World)(b W:Nat)(K:List qX)(n:Nat)(u:Value)(xs:List Wd):Prop where
 x:5<=w0.heap.size/\∃(F1 F2:Nat->Prop)(buf:List gu)(ss:List (List gu)),AW w0 w F1 F2 b buf ss []/\WB w0 w F1 F2 b W K/\Sk K buf ss/\ss.length=n/\Kept w F1 F2 u xs
theorem qq.says{w0 w:World}{b W n:Nat}{K:List qX}{u:Value}{xs:List Wd}(h:qq w0 w b W K n u xs):Ae w u xs:=by
 obtain⟨U,Y,F2,B,ss,h1,h2,h3,h4,O⟩:=h;exact vv.lT O.1
theorem Ds(l:List gu)(ok:Nat->Bool):∀(n:Nat)(t:List Nat),(rW l ok n t).length<=n
 |0,_=>by simp[rW]
 |n+1,t=>by
  unfold rW;split
  .simp
  .exact Nat.succ_le_succ (Ds l ok n _)
theorem KI(K:List qX)(mode:Nat)(B:ByteArray)(gK most:Nat):(xG K mode B gK most).length<=most:=by
 unfold xG xX;split
 .simp
 .split
  .simp only[List.length_map];exact Ds ..
  .simp
section
variable {Z:lQ prog} {W0:World} {Mp:Nat->Prop} {fn:cx} {tm:Array Value} {os:List OF} {wl w0:World} {k:List Item} {b W:Nat} {K:List qX} {ops:Array Oper} {i:Nat} {rest:List Nat} {o:Oper} {xs:Array Operand} {tys:Array TypeId}
theorem uT.UF(mode gK most:Nat)(Y:ByteArray)(h:uT w0 wl b W K)(B:oM wl)(hq:il Y.data.toList=true)
  (hn:∀(w2:World)(u:Value)(n:Nat),qN wl w2->qq w0 w2 b W K n u (xG K mode Y gK most)->gp (iK Z W0 Mp) (⟨fn,iF o.dst tm (.tuple #[u,.int .i64 0]),.inRegion ops rest::k⟩::os) w2 [])
  (hi:ops[i]?=some o:=by rfl) (aa:c0 o (ch ops tm)=true:=by rfl) (ho:o.op=.call {callee:=.value (.func 17),args:=xs,argTypes:=tys}:=by rfl) (ab:∀x∈xs.toList,gR (iK Z W0 Mp).je (iK Z W0 Mp).gl x:=by simp[gR,Plain])
  (ha:xs.map (ll tm)=#[.pointer (some ⟨b,0,none⟩),.int .i64 (mode:Int),.string Y,.int .i64 (gK:Int),.int .i64 (most:Int)]:=by kernel_rfl) (hm:mode<=3:=by omega) (ht:gK<=255:=by omega) (O:1<=most:=by omega) (U:most<=20:=by omega) :
  gp (iK Z W0 Mp) (⟨fn,tm,.inRegion ops (i::rest)::k⟩::os) wl []:=by
 obtain⟨h5,F1,F2,ac,ss,h1,h2,h3⟩:=h;refine h1.SU h5 B hq (λw2 u L k1 hl hp hs hk=>hn w2 u _ hl ⟨h5,F1,F2,ac,ss,k1,h2.low hl,h3,rfl,?_⟩) hi aa ho ab ha hm ht O U;unfold xG;rw[<-ym (Li h3) (λe he=>by obtain⟨i,_,_,rfl⟩:=Oi.1 he; rfl) hm ht O U hq (hp.trans (h3.perm.filter _)) hs];exact hk
theorem uT.ask(mode gK most:Nat)(O:ByteArray)(h:uT w0 wl b W K)(B:oM wl)(hq:il O.data.toList=true)
  (hn:∀(w2:World)(u:Value),qN wl w2->Ae w2 u (xG K mode O gK most)->gp (iK Z W0 Mp) (⟨fn,iF o.dst tm (.tuple #[u,.int .i64 0]),.inRegion ops rest::k⟩::os) w2 [])
  (hi:ops[i]?=some o:=by rfl) (U:c0 o (ch ops tm)=true:=by rfl) (ho:o.op=.call {callee:=.value (.func 17),args:=xs,argTypes:=tys}:=by rfl) (Y:∀x∈xs.toList,gR (iK Z W0 Mp).je (iK Z W0 Mp).gl x:=by simp[gR,Plain])
  (ha:xs.map (ll tm)=#[.pointer (some ⟨b,0,none⟩),.int .i64 (mode:Int),.string O,.int .i64 (gK:Int),.int .i64 (most:Int)]:=by kernel_rfl) (hm:mode<=3:=by omega) (ht:gK<=255:=by omega) (aa:1<=most:=by omega) (ab:most<=20:=by omega) :
  gp (iK Z W0 Mp) (⟨fn,tm,.inRegion ops (i::rest)::k⟩::os) wl []:=
 h.UF mode gK most O B hq (λw2 u _ hl hk=>hn w2 u hl hk.says) hi U ho Y ha hm ht aa ab
theorem uT.fill(la ta:Option Addr)(B:List Raw)(rs:List Int)(lc rc:Nat)(hW:WT wl)(h5:5<=wl.heap.size)(hL:uJ wl la B)(hT:Cb wl ta rs)(O:B.length<=lc)(U:rs.length<=rc)(Y:B.length<=9223372036854775807)(aa:rs.length<=9223372036854775807)
  (hn:∀(w2:World)(b W:Nat),qN wl w2->uT wl w2 b W (Du B)->gp (iK Z W0 Mp) (⟨fn,iF o.dst tm (.pointer (some ⟨W,0,none⟩)),.inRegion ops rest::k⟩::os) w2 [])
  (hi:ops[i]?=some o:=by rfl) (ab:c0 o (ch ops tm)=true:=by rfl) (ho:o.op=.call {callee:=.value (.func 14),args:=xs,argTypes:=tys}:=by rfl) (ac:∀x∈xs.toList,gR (iK Z W0 Mp).je (iK Z W0 Mp).gl x:=by simp[gR,Plain]) (ha:xs.map (ll tm)=#[.slice la B.length lc,.slice ta rs.length rc]:=by kernel_rfl) :
  gp (iK Z W0 Mp) (⟨fn,tm,.inRegion ops (i::rest)::k⟩::os) wl []:=by
 have hs:xs.size=2:=by have:=congrArg Array.size ha; simpa using this
 refine gp.qj _ (jQ:=Tryz.f14) (c:=ic _) hi ab func14 (by kernel_rfl) GP ho ac ?_ (Ij hi hW h5 hL hT O U Y aa λw2 F1 F2 b W ad ss h1 h2 h3=>hn w2 b W h1.low ⟨h5,F1,F2,ad,ss,h1,h2,h3⟩);rw[ha,hs];kernel_rfl
end
end
section
open Go.Conc Go.RowKit Go.Maps
variable {ops:Array Oper} {xs:Array Operand} {tys:Array TypeId} {rest:List Nat} {b i:Nat} {o:Oper}
theorem N'(w:World):cp prog 46 #[.int .i64 (4:Nat)] w λe w'=>e=.returned (.bool false)/\w=w':=by
 go_wp2;go_ret;exact⟨rfl,rfl⟩
section
variable {Z:lQ prog} {W0:World} {Mp:Nat->Prop} {fn:cx} {tm:Array Value} {os:List OF} {wl:World} {k:List Item}
theorem MM(mode most:Nat)(qb:ByteArray)(hi:ops[i]?=some o)(O:c0 o (ch ops tm)=true)(ho:o.op=.call {callee:=.value (.func 17),args:=xs,argTypes:=tys})(U:∀x∈xs.toList,gR (iK Z W0 Mp).je (iK Z W0 Mp).gl x)
  (ha:xs.map (ll tm)=#[.pointer (some ⟨b,0,none⟩),.int .i64 (mode:Int),.string qb,.int .i64 (0:Nat),.int .i64 (most:Int)]) (h4:mode=4)
  (hn:gp (iK Z W0 Mp) (⟨fn,iF o.dst tm (.tuple #[.slice none 0 0,.int .i64 3]),.inRegion ops rest::k⟩::os) wl []) :
  gp (iK Z W0 Mp) (⟨fn,tm,.inRegion ops (i::rest)::k⟩::os) wl []:=by
 subst h4;have Y:xs.size=5:=by have:=congrArg ff ha; simpa using this
 refine gp.qj (#[.pointer (some ⟨b,0,none⟩),.int .i64 ((4:Nat):Int),.string qb,.int .i64 (0:Nat),.int .i64 (most:Int),fr,fr,fr,fr,fr,fr,fr,fr,fr,fr,fr,fr,fr,fr,fr,fr,fr,fr,fr,fr,fr,fr,fr,fr,fr,fr,fr,fr,fr,fr,fr,fr,fr,fr,fr,fr,fr,fr,fr,fr,fr,fr,fr,fr,fr,fr,fr,fr,fr,fr,fr,fr,fr,fr,fr,fr,fr,fr,fr,fr,fr,fr]:Array Value) (jQ:=f17) (c:=ic f17) hi O func17 (by kernel_rfl) ul ho U (by rw[ha,Y]; kernel_rfl) ?_;have HN:c4 _:=hn;clear hn ha O ho U Y;show gp _ (⟨_,_,[.code (.seq (.region 0 _ false) (.seq (.seq (.region 1 _ false) (.cond _ (.seq (.region 2 _ false) .ret) .skip)) (.seq (.seq _ _) _)))]⟩::_) ..;refine gp.sr λkk B=>?_
 (iterate 2 (refine gH ?_; go_simp));refine gp.ie B ?_;refine gp.seq (gp.sc λkk B=>?_);refine r8 (by kernel_rfl) (by rw[B.out]; rfl) (by simp) λτ=>?_;have c1:=N' (tp wl τ);go_wp2_with fail;refine c1.mono ?_;rintro e w' ⟨rfl,rfl⟩;go_wp2;refine iA (gp.tw τ ?_);rw[B.out];refine gp.xW trivial rfl (gp.sr λkk B=>?_)
 (iterate 2 (refine gH ?_; go_simp));refine gp.ie B ?_;refine gp.back (v:=.tuple #[.slice none 0 0,.int .i64 3]) (.inr ⟨_,rfl⟩) func17 hi (λτ=>by simp[cs,results17,go_sem]) ?_;exact HN.out
theorem D7(mode most:Nat)(qb:ByteArray)(hi:ops[i]?=some o)(O:c0 o (ch ops tm)=true)(ho:o.op=.call {callee:=.value (.func 17),args:=xs,argTypes:=tys})(U:∀x∈xs.toList,gR (iK Z W0 Mp).je (iK Z W0 Mp).gl x)
  (ha:xs.map (ll tm)=#[.pointer (some ⟨b,0,none⟩),.int .i64 (mode:Int),.string qb,.int .i64 (0:Nat),.int .i64 (most:Int)]) (hm:mode<=3) (hb:¬((1:Int)<=most/\(most:Int)<=20))
  (hn:gp (iK Z W0 Mp) (⟨fn,iF o.dst tm (.tuple #[.slice none 0 0,.int .i64 3]),.inRegion ops rest::k⟩::os) wl []) :
  gp (iK Z W0 Mp) (⟨fn,tm,.inRegion ops (i::rest)::k⟩::os) wl []:=by
 have HB:c4 _:=hb;clear hb;have Y:xs.size=5:=by have:=congrArg ff ha; simpa using this
 refine gp.qj (#[.pointer (some ⟨b,0,none⟩),.int .i64 (mode:Int),.string qb,.int .i64 (0:Nat),.int .i64 (most:Int),fr,fr,fr,fr,fr,fr,fr,fr,fr,fr,fr,fr,fr,fr,fr,fr,fr,fr,fr,fr,fr,fr,fr,fr,fr,fr,fr,fr,fr,fr,fr,fr,fr,fr,fr,fr,fr,fr,fr,fr,fr,fr,fr,fr,fr,fr,fr,fr,fr,fr,fr,fr,fr,fr,fr,fr,fr,fr,fr,fr,fr,fr]:Array Value) (jQ:=f17) (c:=ic f17) hi O func17 (by kernel_rfl) ul ho U (by rw[ha,Y]; kernel_rfl) ?_;have HN:c4 _:=hn;clear hn ha O ho U Y;show gp _ (⟨_,_,[.code (.seq (.region 0 _ false) (.seq (.seq (.region 1 _ false) (.cond _ (.seq (.region 2 _ false) .ret) .skip)) (.seq (.seq (.region 3 _ false) (.cond _ (.seq (.region 4 _ false) .ret) .skip)) _)))]⟩::_) _ _;refine gp.sr λkk B=>?_
 (iterate 2 (refine gH ?_; go_simp));refine gp.ie B ?_;refine gp.seq (gp.sc λkk B=>?_);refine r8 (by kernel_rfl) (by rw[B.out]; rfl) (by simp) λτ=>?_;have c1:=vd mode hm (tp wl τ);have c2:=vR most (tp wl τ);rw[decide_eq_false HB.out]at c2;go_wp2_with fail;refine c1.mono ?_;rintro e w' ⟨rfl,rfl⟩;go_wp2_with fail;refine c2.mono ?_;rintro e w' ⟨rfl,rfl⟩;go_wp2;refine iA (gp.tw τ ?_);rw[B.out];refine gp.xW trivial rfl (gp.sr λkk B=>?_)
 (iterate 2 (refine gH ?_; go_simp));refine gp.ie B ?_;refine gp.back (v:=.tuple #[.slice none 0 0,.int .i64 3]) (.inr ⟨_,rfl⟩) func17 hi (λτ=>by simp[cs,results17,go_sem]) ?_;exact HN.out
theorem M6(mode most:Nat)(O:ByteArray)(hi:ops[i]?=some o)(U:c0 o (ch ops tm)=true)(ho:o.op=.call {callee:=.value (.func 17),args:=xs,argTypes:=tys})(Y:∀x∈xs.toList,gR (iK Z W0 Mp).je (iK Z W0 Mp).gl x)
  (ha:xs.map (ll tm)=#[.pointer (some ⟨b,0,none⟩),.int .i64 (mode:Int),.string O,.int .i64 (0:Nat),.int .i64 (most:Int)]) (hm:mode<=3) (hb:(1:Int)<=most/\(most:Int)<=20) (hq:il O.data.toList=false) (aa:O.size<=cc)
  (hn:gp (iK Z W0 Mp) (⟨fn,iF o.dst tm (.tuple #[.slice none 0 0,.int .i64 2]),.inRegion ops rest::k⟩::os) wl []) :
  gp (iK Z W0 Mp) (⟨fn,tm,.inRegion ops (i::rest)::k⟩::os) wl []:=by
 have HB:c4 _:=hb;have HQ:c4 _:=And.intro hq aa;clear hb hq aa;have ab:xs.size=5:=by have:=congrArg ff ha; simpa using this
 refine gp.qj (#[.pointer (some ⟨b,0,none⟩),.int .i64 (mode:Int),.string O,.int .i64 (0:Nat),.int .i64 (most:Int),fr,fr,fr,fr,fr,fr,fr,fr,fr,fr,fr,fr,fr,fr,fr,fr,fr,fr,fr,fr,fr,fr,fr,fr,fr,fr,fr,fr,fr,fr,fr,fr,fr,fr,fr,fr,fr,fr,fr,fr,fr,fr,fr,fr,fr,fr,fr,fr,fr,fr,fr,fr,fr,fr,fr,fr,fr,fr,fr,fr,fr,fr]:Array Value) (jQ:=f17) (c:=ic f17) hi U func17 (by kernel_rfl) ul ho Y (by rw[ha,ab]; kernel_rfl) ?_;have HN:c4 _:=hn;clear hn ha U ho Y ab;show gp _ (⟨_,_,[.code (.seq (.region 0 _ false) (.seq (.seq (.region 1 _ false) (.cond _ (.seq (.region 2 _ false) .ret) .skip)) (.seq (.seq (.region 3 _ false) (.cond _ (.seq (.region 4 _ false) .ret) .skip)) _)))]⟩::_) _ _;refine gp.sr λkk B=>?_
 (iterate 2 (refine gH ?_; go_simp));refine gp.ie B ?_;clear B kk;refine gp.seq (gp.sc λkk B=>?_);refine r8 (by kernel_rfl) (by rw[B.out]; rfl) (by simp) λτ=>?_;have c1:=vd mode hm (tp wl τ);have c2:=vR (most:Int) (tp wl τ);rw[decide_eq_true HB.out]at c2;clear hm;go_wp2_with fail;refine c1.mono ?_;rintro e w' ⟨rfl,rfl⟩;clear c1;go_wp2_with fail;refine c2.mono ?_;rintro e w' ⟨rfl,rfl⟩;clear c2;go_wp2;refine iA (gp.tw τ ?_);rw[B.out];clear B kk;refine gp.qv trivial rfl (gp.skip (gp.seq (gp.sc λkk B=>?_)));refine r8 (by kernel_rfl) (by rw[B.out]; rfl) (by simp) λτ=>?_;have c3:=qC O (tp wl τ) HQ.out.2;rw[HQ.out.1]at c3;go_wp2_with fail;refine c3.mono ?_;rintro e w' ⟨rfl,rfl⟩;go_wp2;refine iA (gp.tw τ ?_);rw[B.out];refine gp.xW trivial rfl (gp.sr λkk B=>?_)
 (iterate 2 (refine gH ?_; go_simp));refine gp.ie B ?_;refine gp.back (v:=.tuple #[.slice none 0 0,.int .i64 2]) (.inr ⟨_,rfl⟩) func17 hi (λτ=>by simp[cs,results17,go_sem]) ?_;exact HN.out
end
end
section
open Go.Conc Go.RowKit Go.Maps
structure TE(w0 w:World)(b W n t:Nat):Prop where
 x:∃(F1 F2:Nat->Prop)(buf:List gu)(ss:List (List gu))(K:List qX),AW w0 w F1 F2 b buf ss []/\WB w0 w F1 F2 b W K/\ss.length=n/\Inv buf ss/\(ix ss buf).length<=t
def zr(name text:Wd)(x y:Int):Nat:=if jE name=true then if il text=true/\text≠[]then if x<0\/1000000<x\/y<0\/255<y then 3 else 0 else 2 else 1
theorem R3{B:List gu}{ss:List (List gu)}(h:(ix ss B).length<30)(name text:Wd)(x y:Int):(kq B ss name text x y).1=zr name text x y:=by
 unfold kq zr;split
 .split
  .split
   .rfl
   .rw[if_neg (by omega)]
  .rfl
 .rfl
theorem NL{B:List gu}{ss:List (List gu)}(name text:Wd)(x y:Int):(ix ss (kq B ss name text x y).2).length<=(ix ss B).length+1:=by
 unfold kq;split
 .split
  .split
   .exact dd _
   .split
    .exact dd _
    .rw[qL,po,List.length_append,jr];have O:=List.length_filter_le (lA [(⟨name,false,text,x,y⟩)]) (gD (j6 (ss++[B])));have U:(gD [(⟨name,false,text,x,y⟩)]).length=1:=rfl;omega
  .exact dd _
 .exact dd _
section
variable {w0 w w':World} {b W n t:Nat} {K:List qX} {u:Value} {xs:List Wd}
theorem qq.VP(h:qq w0 w b W K n u xs):uT w0 w b W K:=by
 obtain⟨O,U,Y,B,ss,h1,h2,h3,_⟩:=h;exact⟨O,U,Y,B,ss,h1,h2,h3⟩
theorem qq.low(h:qq w0 w b W K n u xs)(B:qN w w'):qq w0 w' b W K n u xs:=by
 obtain⟨U,Y,F2,O,ss,h1,h2,h3,h4,h6⟩:=h;exact⟨U,Y,F2,O,ss,h1.same B,h2.low B,h3,h4,h6.step (St.same B)⟩
theorem qq.base(h:qq w0 w b W K n u xs):qN w0 w:=by
 obtain⟨U,Y,F2,B,ss,O,_⟩:=h;exact O.low
theorem qq.lg(h:qq w0 w b W K n u xs):cp prog 30 #[.pointer (some ⟨b,0,none⟩)] w λe w'=>e=.returned (.int .i64 n)/\w=w':=by
 obtain⟨U,Y,F2,B,ss,O,h2,h3,rfl,h6⟩:=h;exact O.lg
theorem qq.Di(h:qq w0 w b W K n u xs){s t:ByteArray}{x y:Int}(c:Nat)(Y:s.size<=cc)(ht:t.size<=cc)(hc:∀B ss,kq B ss s.data.toList t.data.toList x y=(c,B)) :
  cp prog 38 #[.pointer (some ⟨b,0,none⟩),.string s,.string t,.int .i64 x,.int .i64 y] w λe w'=>e=.returned (.int .i64 c)/\qq w0 w' b W K n u xs:=by
 obtain⟨h5,F1,F2,B,ss,h1,h2,h3,h4,h6⟩:=h;refine(h1.Di s t x y Y ht).mono ?_;rw[hc];rintro e w' ⟨rfl,O,k1,U⟩;exact⟨rfl,h5,O,F2,B,ss,k1,h2.step U,h3,h4,h6.step U⟩
theorem qq.del(h:qq w0 w b W K n u xs){s:ByteArray}(c:Nat)(Y:s.size<=cc)(hc:∀B ss,mI B ss s.data.toList=(c,B)) :
  cp prog 37 #[.pointer (some ⟨b,0,none⟩),.string s] w λe w'=>e=.returned (.int .i64 c)/\qq w0 w' b W K n u xs:=by
 obtain⟨h5,F1,F2,B,ss,h1,h2,h3,h4,h6⟩:=h;refine(h1.del s Y).mono ?_;rw[hc];rintro e w' ⟨rfl,O,k1,U⟩;exact⟨rfl,h5,O,F2,B,ss,k1,h2.step U,h3,h4,h6.step U⟩
theorem qq.te(h:qq w0 w b W K n u xs):TE w0 w b W n 12:=by
 obtain⟨h5,U,Y,B,ss,h1,h2,O,h4,h6⟩:=h;exact⟨U,Y,B,ss,K,h1,h2,h4,O.inv,O.Th⟩
theorem TE.low(h:TE w0 w b W n t)(O:qN w w'):TE w0 w' b W n t:=by
 obtain⟨U,Y,B,ss,K,h1,h2,h3⟩:=h;exact⟨U,Y,B,ss,K,h1.same O,h2.low O,h3⟩
theorem TE.cell(h:TE w0 w b W n t):w.cell? ⟨W,0,none⟩=some (.pointer (some ⟨b,0,none⟩)):=by
 obtain⟨U,Y,B,ss,K,h1,O,h3⟩:=h;rw[gq O.blk,pb];rfl
theorem TE.rz(h:TE w0 w b W n t):n<=6:=by
 obtain⟨U,Y,B,ss,K,h1,h2,rfl,O,h5⟩:=h;exact O.rz
theorem TE.Di(h:TE w0 w b W n t)(O:t<30)(s tx:ByteArray)(x y:Int)(U:s.size<=cc)(Y:tx.size<=cc) :
  cp prog 38 #[.pointer (some ⟨b,0,none⟩),.string s,.string tx,.int .i64 x,.int .i64 y] w λe w'=>e=.returned (.int .i64 (zr s.data.toList tx.data.toList x y))/\TE w0 w' b W n (t+1):=by
 obtain⟨F1,F2,aa,ss,K,h1,h2,h3,h4,h5⟩:=h;refine(h1.Di s tx x y U Y).mono ?_;rw[R3 (by omega)];rintro e w' ⟨rfl,B,k1,k2⟩;exact⟨rfl,B,F2,_,ss,K,k1,h2.step k2,h3,Ex h4 ..,Nat.le_trans (NL ..) (by omega)⟩
theorem TE.merge(h:TE w0 w b W n t)(z:Int)(hz:(n:Int)<=z):cp prog 39 #[.pointer (some ⟨b,0,none⟩),.int .i64 z] w λe w'=>e=.returned (.int .i64 (6:Nat))/\qN w0 w':=by
 obtain⟨F1,F2,B,ss,K,O,h2,h3,h4,h5⟩:=h;refine(O.merge z).mono ?_;have U:iJ ss z=(6,ss):=by unfold iJ; rw[if_pos (Or.inr (by omega))]
 rw[U];rintro e w' ⟨rfl,Y,k1,k2⟩;exact⟨rfl,k1.low⟩
end
end
section
open Go.Conc Go.RowKit Go.Maps
variable {sb:ByteArray} {K:List qX} {c:UInt8} {u:Value} {l:Wd} {w:World}
theorem Gw(c:UInt8)(w:World):cp prog 36 #[.int .u8 c.toNat] w λe w'=>e=.returned (.bool (ik c))/\w=w':=by
 go_enter func36,ntmps36;go_wp2
 all_goals
  go_ret;refine⟨iy ?_,rfl⟩;unfold ik;rw[ex];simp only[decide_eq_true_eq,Bool.or_eq_true,true_iff,false_iff,Bool.false_eq_true];omega
theorem app1(s:ByteArray)(c:UInt8):(s++⟨#[c]⟩:ByteArray).data.toList=s.data.toList++[c]:=by simp
theorem Lz(h:ik c=false):jE (l++[c])=false:=by simp[jE,h]
theorem Ho(h:mh c=false):il (l++[c])=false:=by simp[il,h]
theorem Ud{s:ByteArray}(h:jE s.data.toList=false)(B:List gu)(ss:List (List gu)):mI B ss s.data.toList=(1,B):=by unfold mI; rw[h]; rfl
theorem SJ{s t:ByteArray}{x y:Int}(h:jE s.data.toList=false)(B:List gu)(ss:List (List gu)):kq B ss s.data.toList t.data.toList x y=(1,B):=by unfold kq; rw[h]; rfl
theorem S9{s t:ByteArray}{x y:Int}(h:jE s.data.toList=true)(O:il t.data.toList=false)(B:List gu)(ss:List (List gu)):kq B ss s.data.toList t.data.toList x y=(2,B):=by unfold kq; rw[h,O]; simp
theorem F0{s t:ByteArray}{x y:Int}(h:jE s.data.toList=true)(O:il t.data.toList=true/\t.data.toList≠[])(U:x<0\/1000000<x\/y<0\/255<y)(B:List gu)(ss:List (List gu)):kq B ss s.data.toList t.data.toList x y=(3,B):=by unfold kq; rw[if_pos h,if_pos O,if_pos U]
theorem qq.cell{w0:World}{b W n:Nat}{xs:List Wd}(h:qq w0 w b W K n u xs):w.cell? ⟨W,0,none⟩=some (.pointer (some ⟨b,0,none⟩)):=h.VP.cell
section
variable {Z:lQ prog} {W0:World} {Mp:Nat->Prop} {fn:cx} {tm:Array Value} {os:List OF} {wl:World} {k:List Item} {V:List (Nat×Option (List Value))}
theorem wY{ops:Array Oper}{i:Nat}{rest:List Nat}{o:Oper}{a:Addr}{v:Value}(O:wl.cell? a=some v)(h:gp (iK Z W0 Mp) (⟨fn,(Act.put ⟨tm,[]⟩ o.dst v).tmps,.inRegion ops rest::k⟩::os) wl V)(hi:ops[i]?=some o:=by rfl)(U:∀y:World,y.cell? a=some v->jC prog o ⟨tm,[]⟩ y (λu Y=>Same y Y/\u=v):=by intro y q; unfold jC; go_simp; refine⟨rfl,?_⟩; with_reducible rfl)
  (B:c0 o (ch ops tm)=true:=by rfl) (ho:Fx prog uu sf true o.op=true:=by kernel_rfl):gp (iK Z W0 Mp) (⟨fn,tm,.inRegion ops (i::rest)::k⟩::os) wl V:=
 Tt hi B ho λτ=>(U (tp wl τ) O).mono λ_ _ hh=>by
  obtain⟨rfl,rfl⟩:=hh;exact gp.tw τ h
end
def Tg(c:Code):Code:=match c with
 |.seq _ (.seq _ (.seq _ (.seq _ (.seq _ (.seq _ (.seq _ y))))))=>y
 |_=>.skip
def Vj(c:Code):Code:=match Tg c with
 |.seq _ (.seq _ (.seq _ (.seq _ (.seq _ (.seq _ (.seq _ (.seq _ (.seq _ (.seq _ (.seq _ (.seq _ (.seq _ (.seq _ (.seq _ (.seq _ (.seq _ (.seq _ (.seq _ y))))))))))))))))))=>y
 |_=>.skip
section
variable {Z:lQ prog} {W0:World} {Mp:Nat->Prop} {wl:World}
theorem EH{b W m c1 c2 c3:Nat}{n wt tg:Int}{Y aa ab:Bool}(n0 : -9223372036854775808<=n)(n1:n<=9223372036854775807)(hn:∀(w:World)(ad:Array Value),qN wl w->ad[12]?=some (.bool true)->gp (iK Z W0 Mp) [⟨11,ad,[.code .ret]⟩] w [])
  (hT:TE wl w b W m 14) (gn:m<=6) (h1:c1=0/\Y=true\/c1=1/\Y=false) (h2:c2=0/\aa=true\/c2=2/\aa=false) (e3:zr (⟨#[122,122]⟩:ByteArray).data.toList (⟨#[98]⟩:ByteArray).data.toList wt tg=c3) (h3:c3=0/\ab=true\/c3=3/\ab=false) (a0 a1 a2 a6 a7 a8 a9 e6 e7 e8 e9 e' eA eB eC eD eE eF eG eH eI eJ eK eL eM eN eO eP eQ eR eS eT eU eV eW eX eY eZ fa fc fd fe fg fh fi fj fk fl fm fo fp fq fs ft fu fv fw fx fy f' fA fC fD fE fF fG fH fI fJ fK fL fM fN fO fP fQ fR fS fT fU fV fW fX fY fZ ga gc gd ge gf ae af ag ah ai aj ak al am an ao ap aq ar au av aw ax ay az a3 a4 a5 a' aA aB aC aD aE aF aG aH aI aJ aK aL aM aN aO aP aQ aR aS aT aU aV aW aX aY aZ ba bc bd be bf bg bh bi bj bk bl bm bn bo bp bq br bs bt bu bv bw bx bz b0 b1 b2 b3 b4 b5 b6 b7 b8 b9 b' bA bB bC bD bE bF bG bH bI bJ bK bL bM bN bO bP bQ bR bS bT bU bV bW bX bY bZ ca cb cd ce cf cg ci cj ck cl cm cn cq cr ct cu cv cw cy cz c6 c7 c8 c9 c' cA cB cC cD cE cF cG cH cI cJ cK cL cM cN cO cP cQ cR cS cT cU cV cW cX cY cZ da db dc de df dg dh di dj dl dn dp dq dr dt du dv dw dx dy dz d' dA dB dC dD dE dF dG dH dI dJ dK dL dM dN dO dP dQ dR dS dT dU dV dW dX dY dZ ed ee ef eg eh ei ej ek en eo ep er es et eu ev ew ey ez e0 e1 e2 e4:Value) :
  gp (iK Z W0 Mp) [⟨11,#[a0,a1,a2,.int .i64 n,.int .i64 wt,.int .i64 tg,a6,a7,a8,a9,e6,e7,e8,.pointer (some ⟨W,0,none⟩),e9,e',.int .i64 (m:Int),.bool Y,.bool aa,eA,eB,eC,eD,eE,eF,eG,eH,eI,eJ,eK,eL,eM,eN,eO,eP,eQ,eR,eS,eT,.int .i64 (c1:Int),.int .i64 (c2:Int),.bool ab,eU,eV,eW,eX,eY,eZ,fa,fc,fd,fe,fg,fh,fi,fj,fk,fl,fm,fo,fp,fq,fs,ft,fu,fv,fw,fx,fy,f',fA,fC,fD,fE,fF,fG,fH,fI,fJ,fK,fL,fM,fN,fO,fP,fQ,fR,fS,fT,fU,fV,fW,fX,fY,fZ,ga,gc,gd,ge,gf,ae,af,ag,ah,ai,aj,ak,al,am,an,ao,ap,aq,ar,au,av,aw,ax,ay,az,a3,a4,a5,a',aA,aB,aC,aD,aE,aF,aG,aH,aI,aJ,aK,aL,aM,aN,aO,aP,aQ,aR,aS,aT,aU,aV,aW,aX,aY,aZ,ba,bc,bd,be,bf,bg,bh,bi,bj,bk,bl,bm,bn,bo,bp,bq,br,bs,bt,bu,bv,bw,bx,bz,b0,b1,b2,b3,b4,b5,b6,b7,b8,b9,b',bA,bB,bC,bD,bE,bF,bG,bH,bI,bJ,bK,bL,bM,bN,bO,bP,bQ,bR,bS,bT,bU,bV,bW,bX,bY,bZ,ca,cb,cd,ce,cf,cg,ci,cj,ck,cl,cm,cn,cq,cr,ct,cu,cv,cw,cy,cz,c6,c7,c8,c9,c',cA,cB,cC,cD,cE,cF,cG,cH,cI,cJ,cK,cL,cM,cN,cO,cP,cQ,cR,cS,cT,cU,cV,cW,cX,cY,cZ,da,db,dc,de,df,dg,dh,di,dj,dl,dn,dp,dq,dr,dt,du,dv,dw,dx,dy,dz,d',dA,dB,dC,dD,dE,dF,dG,dH,dI,dJ,dK,dL,dM,dN,dO,dP,dQ,dR,dS,dT,dU,dV,dW,dX,dY,dZ,ed,ee,ef,eg,eh,ei,ej,ek,en,eo,ep,er,es,et,eu,ev,ew,ey,ez,e0,e1,e2,e4],[.code (Vj (ic Tryz.f11))]⟩] w []:=by
 have HX:c4 _:=And.intro n0 (And.intro n1 hn);have B:c4 _:=hT;have gg:c4 _:=h1;have gh:c4 _:=h2;have gi:c4 _:=h3;clear n0 n1 hn hT h1 h2 h3;show gp _ [⟨_,_,[.code (.seq (.region 34 _ false) (.seq (.region 35 _ true) (.seq (.region 36 _ false) .ret)))]⟩] _ _;refine jp λU HK y2 O=>?_;have B:c4 _:=B.out.low O;have q:=B.out.cell;have C:=B.out.Di (by omega) ⟨#[122,122]⟩ ⟨#[98]⟩ wt tg (by decide) (by decide);rw[e3]at C;clear O;go_wp2_with fail;refine C.mono ?_;clear C q;rintro e w2 ⟨rfl,hT⟩;have B:c4 _:=hT;clear hT;go_wp2;refine iE HK ?_;clear HK U;refine jp λU HK y2 O=>?_;have B:c4 _:=B.out.low O;have u0:=B.out.cell;have gj:pk n 100<100:=sO n 100 (by omega);have gm:IntKind.i64.wrap ((m:Int)+((pk n 100:Nat):Int))=(m:Int)+((pk n 100:Nat):Int):=by simp only[IntKind.wrap_i64]; omega
 have HP:c4 (∀y,cp prog 15 #[.int .i64 n,.int .i64 100] y λe w'=>e=.returned (.int .i64 (pk n 100:Nat))/\y=w'):=λy=>lK n 100 y HX.out.1 HX.out.2.1 (by omega) (by omega);have HF:c4 (∀y,qN y2 y->cp prog 39 #[.pointer (some ⟨b,0,none⟩),.int .i64 ((m:Int)+((pk n 100:Nat):Int))] y λe w'=>e=.returned (.int .i64 (6:Nat))/\qN wl w'):=λy O=>(B.out.low O).merge _ (by omega);generalize ((pk n 100:Nat):Int)=dk at *;clear O gj;refine jI (Sd:=λa y=>pj _ _ _ [8,9] a y) (last:=8) (tl:=[9]) (by kernel_rfl) ?_ (λa y h _=>h);refine gI 0 ?_ ?_<|gI 1 ?_ ?_<|gI 2 ?_ ?_<|gI 3 ?_ ?_<|gI 4 ?_ ?_<|gI 5 ?_ ?_ ?_
 any_goals(intro y hy; have q0:=ma hy u0; unfold jC; go_simp; refine⟨iT.refl _,?_⟩; with_reducible rfl)
 go_simp;refine gI 6 ?_ ?_ ?_;rotate_left
 .intro y hy; unfold jC; go_simp; refine⟨rfl,(HP.out y).mono ?_⟩; rintro e y2 ⟨rfl,rfl⟩; refine⟨_,rfl,iT.refl _,?_⟩; with_reducible rfl
 go_simp;refine gI 7 ?_ ?_ ?_;rotate_left
 .intro y hy; unfold jC; go_simp; refine⟨iT.refl _,?_⟩; with_reducible rfl
 go_simp;refine pn (by kernel_rfl) (λt=>wH (by kernel_rfl) (by kernel_rfl) _ _) ?_;intro y hy;have hF:=HF.out y (tq hy);clear hy u0 HF HP gm;refine mc rfl rfl ?_;unfold jC;go_simp;refine⟨rfl,hF.mono ?_⟩;rintro e y3 ⟨rfl,e5⟩;have ac:c4 _:=e5;clear hF e5 B;refine⟨_,rfl,?_⟩;refine mc rfl rfl ?_;unfold jC;go_simp;refine pF ?_;refine iE HK ?_;clear HK U;rcases gg.out with⟨rfl,rfl⟩|⟨rfl,rfl⟩<;>rcases gh.out with⟨rfl,rfl⟩|⟨rfl,rfl⟩<;>rcases gi.out with⟨rfl,rfl⟩|⟨rfl,rfl⟩
 all_goals
  refine jp λU HK y4 O=>?_;have ac:c4 _:=ac.out.trans O;clear O;go_wp2;refine iE HK ?_;exact HX.out.2.2 _ _ ac.out (by first|rfl|(simp; omega))
end
section
variable {Z:lQ prog} {W0:World} {Mp:Nat->Prop} {wl:World}
theorem E2{b W m:Nat}{n wt tg:Int}{p0 q0:Bool}(hW:WT wl)(h5:5<=wl.heap.size)(hs:sb.size+1<=cc)(n0 : -9223372036854775808<=n)(n1:n<=9223372036854775807)(hE:qq wl w b W K m u (xG K 0 ⟨#[]⟩ 0 20))(hp:p0=decide (0<sb.size/\sb.size<=8))(hq:q0=decide (0<sb.size/\sb.size<=24))
  (hn:∀(w:World)(ae:Array Value),qN wl w->ae[12]?=some (.bool true)->gp (iK Z W0 Mp) [⟨11,ae,[.code .ret]⟩] w []) (a0 a1 aj ak al am an ao ap aq ar au av aw ax ay az a3 a4 a5 a6 a7 a8 a9 a' aA aB aC aD aE aF aG aH aI aJ aK:Value) :
  gp (iK Z W0 Mp) [⟨11,#[a0,a1,.string sb,.int .i64 n,.int .i64 wt,.int .i64 tg,fr,fr,fr,fr,fr,fr,.bool false,.pointer (some ⟨W,0,none⟩),u,.int .i64 0,.int .i64 (m:Int),.bool p0,.bool q0,fr,fr,fr,fr,fr,fr,fr,fr,fr,fr,fr,fr,fr,fr,fr,fr,fr,fr,fr,fr,fr,fr,fr,fr,fr,aj,ak,al,am,an,ao,ap,aq,ar,au,av,aw,ax,ay,az,a3,a4,a5,a6,a7,a8,a9,a',aA,aB,aC,aD,aE,aF,aG,aH,aI,aJ,aK,fr,fr,fr,fr,fr,fr,fr,fr,fr,fr,fr,fr,fr,fr,fr,fr,fr,fr,fr,fr,fr,fr,fr,fr,fr,fr,fr,fr,fr,fr,fr,fr,fr,fr,fr,fr,fr,fr,fr,fr,fr,fr,fr,fr,fr,fr,fr,fr,fr,fr,fr,fr,fr,fr,fr,fr,fr,fr,fr,fr,fr,fr,fr,fr,fr,fr,fr,fr,fr,fr,fr,fr,fr,fr,fr,fr,fr,fr,fr,fr,fr,fr,fr,fr,fr,fr,fr,fr,fr,fr,fr,fr,fr,fr,fr,fr,fr,fr,fr,fr,fr,fr,fr,fr,fr,fr,fr,fr,fr,fr,fr,fr,fr,fr,fr,fr,fr,fr,fr,fr,fr,fr,fr,fr,fr,fr,fr,fr,fr,fr,fr,fr,fr,fr,fr,fr,fr,fr,fr,fr,fr,fr,fr,fr,fr,fr,fr,fr,fr,fr,fr,fr,fr,fr,fr,fr,fr,fr,fr,fr,fr,fr,fr,fr,fr,fr,fr,fr,fr,fr,fr,fr,fr,fr,fr,fr,fr,fr,fr,fr,fr,fr,fr,fr,fr,fr,fr,fr,fr,fr,fr,fr,fr,fr,fr,fr,fr,fr,fr,fr,fr,fr,fr,fr,fr,fr,fr,fr,fr,fr,fr,fr,fr,fr,fr,fr,fr,fr,fr,fr,fr,fr,fr,fr,fr,fr,fr,fr,fr,fr,fr,fr,fr,fr,fr,fr,fr,fr,fr,fr,fr,fr,fr,fr,fr,fr,fr,fr,fr,fr,fr,fr,fr,fr,fr],[.code (Tg (ic Tryz.f11))]⟩] w []:=by
 have HX:c4 _:=And.intro hW (And.intro h5 (And.intro n0 (And.intro n1 hn)));have aa:c4 _:=And.intro hp hq;have O:c4 _:=hE;have aO:¬(9223372036854775807<sb.size+1):=by unfold cc at hs; omega
 have HS:c4 (sb.size+1<=cc):=hs;clear hW h5 n0 n1 hn hp hq hE hs;show gp _ [⟨_,_,[.code (.seq (.seq (.region 8 _ false) (.block 0 (.loop _))) (.seq (.region 14 _ false) (.seq (.region 15 _ false) (.seq (.region 16 _ false) (.seq (.region 17 _ false) (.seq (.region 18 _ false) (.seq (.region 19 _ false) (.seq (.region 20 _ false) (.seq (.region 21 _ false) (.seq (.region 22 _ false) (.seq (.region 23 _ false) (.seq (.seq (.region 24 _ false) (.cond _ _ .skip)) (.seq (.region 26 _ false) (.seq (.region 27 _ false) (.seq (.region 28 _ false) (.seq (.seq (.region 29 _ false) (.cond _ _ .skip)) (.seq (.region 31 _ false) (.seq (.region 32 _ false) (.seq (.region 33 _ false) (.seq (.region 34 _ false) (.seq (.region 35 _ true) (.seq (.region 36 _ false) .ret))))))))))))))))))))))]⟩] _ _;refine jp λkk U y Y=>?_;have O:c4 _:=O.out.low Y;clear Y;go_wp2;go_loopw [17,18,19] (λp q i wr=>∃k:Nat,k<=sb.size/\i=.int .i64 k/\p=.bool (p0&&(sb.data.toList.take k).all ik)/\q=.bool (q0&&(sb.data.toList.take k).all mh)/\y=wr) (λ_ _ i _=>sb.size-(intOf i).toNat)
 case atStart=>exact⟨0,Nat.zero_le _,rfl,by simp,by simp,rfl⟩
 case round=>
  obtain⟨k,hk,rfl,rfl,rfl,rfl⟩:=hrel;by_cases aL:k<sb.size
  .have ab:=xe sb k aL
   have HN:c4 ((p0&&(sb.data.toList.take (k+1)).all ik)=(p0&&(sb.data.toList.take k).all ik&&ik sb[k])):=by
    show _=_;rw[ab,List.all_append]; simp[eq]
   have HT:c4 ((q0&&(sb.data.toList.take (k+1)).all mh)=(q0&&(sb.data.toList.take k).all mh&&mh sb[k])):=by
    show _=_;rw[ab,List.all_append]; simp[eq]
   have af:c4 (mh sb[k]=decide (32<=(sb[k].toNat:Int)/\(sb[k].toNat:Int)<=126)):=by
    show _=_;unfold mh;rw[decide_eq_decide]; omega
   clear ab;have C:=Gw sb[k] y;go_wp2_with fail;refine C.mono ?_;clear C;rintro e w2 ⟨rfl,rfl⟩;generalize ik sb[k]=c1 at *;generalize (p0&&(sb.data.toList.take k).all ik)=p1 at *;generalize (q0&&(sb.data.toList.take k).all mh)=q1 at *;have h3:(sb[k].toNat:Int)<32\/(32<=(sb[k].toNat:Int)/\126<(sb[k].toNat:Int))\/(32<=(sb[k].toNat:Int)/\(sb[k].toNat:Int)<=126):=by omega
   have HC:c4 (∀z,z=mh sb[k]->z=decide (32<=(sb[k].toNat:Int)/\(sb[k].toNat:Int)<=126)):=λz hz=>hz.trans af.out;cases p1<;>cases q1
   all_goals
    rcases h3 with h|⟨h,h'⟩|⟨h,h'⟩
    all_goals
     go_wp2;go_roundw
     case rel=>
      refine⟨k+1,by omega,by go_num,by rw[HN.out]; simp,by rw[HT.out,af.out]; simp<;>omega,trivial⟩
     case measure=>simp[intOf]; omega
  .obtain rfl:k=sb.size:=by omega
   have e1:sb.data.toList.take sb.size=sb.data.toList:=List.take_of_length_le (by simp);rw[e1]
   have HN:c4 ((p0&&sb.data.toList.all ik)=jE sb.data.toList):=by
    show _=_;rw[aa.out.1];unfold jE;simp only[fb];show(decide (0<sb.data.size/\sb.data.size<=8)&&_)=_;rw[Bool.decide_and,Bool.and_comm,eq]
   have HT:c4 ((q0&&sb.data.toList.all mh)=decide (il sb.data.toList=true/\sb.data.toList≠[])):=by
    show _=_;rw[aa.out.2,ex];unfold il;simp only[Bool.and_eq_true,decide_eq_true_eq,fb,ne_eq,<-List.length_eq_zero_iff];show(0<sb.data.size/\sb.data.size<=24)/\_↔(sb.data.size<=24/\_)/\¬sb.data.size=0;constructor
    .rintro⟨⟨h1,h2⟩,h3⟩; exact⟨⟨h2,h3⟩,by omega⟩
    .rintro⟨⟨h2,h3⟩,h1⟩; exact⟨⟨by omega,h2⟩,h3⟩
   rw[HN.out,HT.out];obtain⟨ac,hN⟩:∃x,jE sb.data.toList=x:=⟨_,rfl⟩;obtain⟨ad,hT⟩:∃x,decide (il sb.data.toList=true/\sb.data.toList≠[])=x:=⟨_,rfl⟩;rw[hN,hT];have HN:c4 _:=hN;have aM:c4 _:=hT;clear e1 HT aa hN hT;go_wp2;refine iE U ?_;refine jp λB U y2 Y=>?_;have O:c4 _:=O.out.low Y;have q:=O.out.cell;have C:=O.out.del (s:=sb++⟨#[33]⟩) 1 (by rw[c5]; exact HS.out) (Ud (by rw[app1]; exact Lz (by decide)));clear Y;go_wp2_with fail;refine C.mono ?_;clear C q;rintro e w2 ⟨rfl,hE⟩;have O:c4 _:=hE;clear hE;go_wp2;refine iE U ?_;clear U B;refine jp λB U y2 Y=>?_;have O:c4 _:=O.out.low Y;have q:=O.out.cell;have C:=O.out.Di (s:=sb++⟨#[33]⟩) (t:=⟨#[97]⟩) (x:=1) (y:=1) 1 (by rw[c5]; exact HS.out) (by decide) (SJ (by rw[app1]; exact Lz (by decide)));clear Y;go_wp2_with fail;refine C.mono ?_;clear C q;rintro e w2 ⟨rfl,hE⟩;have O:c4 _:=hE;clear hE;go_wp2;refine iE U ?_;clear U B;refine jp λB U y2 Y=>?_;have O:c4 _:=O.out.low Y;have q:=O.out.cell;have C:=O.out.Di (s:=⟨#[122,122]⟩) (t:=sb++⟨#[10]⟩) (x:=1) (y:=1) 2 (by decide) (by rw[c5]; exact HS.out) (S9 (by decide) (by rw[app1]; exact Ho (by decide)));clear Y;go_wp2_with fail;refine C.mono ?_;clear C q;rintro e w2 ⟨rfl,hE⟩;have O:c4 _:=hE;clear hE;go_wp2;refine iE U ?_;clear U B;refine jp λB U y2 Y=>?_;have O:c4 _:=O.out.low Y;have q:=O.out.cell;have C:=O.out.Di (s:=⟨#[122,122]⟩) (t:=⟨#[97]⟩) (x:=-1) (y:=tg) 3 (by decide) (by decide) (F0 (by decide) (by decide) (by omega));clear Y;go_wp2_with fail;refine C.mono ?_;clear C q;rintro e w2 ⟨rfl,hE⟩;have O:c4 _:=hE;clear hE;go_wp2;refine iE U ?_;clear U B;refine jp λB U y2 Y=>?_;have O:c4 _:=O.out.low Y;have q:=O.out.cell;have C:=O.out.Di (s:=⟨#[122,122]⟩) (t:=⟨#[97]⟩) (x:=1000001) (y:=tg) 3 (by decide) (by decide) (F0 (by decide) (by decide) (by omega));clear Y;go_wp2_with fail;refine C.mono ?_;clear C q;rintro e w2 ⟨rfl,hE⟩;have O:c4 _:=hE;clear hE;go_wp2;refine iE U ?_;clear U B;refine jp λB U y2 Y=>?_;have O:c4 _:=O.out.low Y;have q:=O.out.cell;have C:=O.out.Di (s:=⟨#[122,122]⟩) (t:=⟨#[97]⟩) (x:=1) (y:=256) 3 (by decide) (by decide) (F0 (by decide) (by decide) (by omega));clear Y;go_wp2_with fail;refine C.mono ?_;clear C q;rintro e w2 ⟨rfl,hE⟩;have O:c4 _:=hE;clear hE;go_wp2;refine iE U ?_;clear U B;refine gp.sr λB U=>?_
   (iterate 3 (refine gH ?_; go_simp));refine wY O.out.cell ?_;go_simp
   (refine gH ?_; go_simp);refine MM (i:=5) (b:=b) 4 1 sb rfl rfl rfl (by simp[gR,Plain]) (by kernel_rfl) rfl ?_;rw[jf];go_simp
   (iterate 5 (refine gH ?_; go_simp));refine gp.ie U ?_;clear U B;refine gp.sr λB U=>?_
   (iterate 3 (refine gH ?_; go_simp));refine wY O.out.cell ?_;go_simp;refine D7 (i:=4) (b:=b) 0 0 ⟨#[]⟩ rfl rfl rfl (by simp[gR,Plain]) (by kernel_rfl) (by omega) (by omega) ?_;rw[jf];go_simp
   (iterate 5 (refine gH ?_; go_simp));refine gp.ie U ?_;clear U B;refine gp.sr λB U=>?_
   (iterate 3 (refine gH ?_; go_simp));refine wY O.out.cell ?_;go_simp;refine D7 (i:=4) (b:=b) 0 21 ⟨#[]⟩ rfl rfl rfl (by simp[gR,Plain]) (by kernel_rfl) (by omega) (by omega) ?_;rw[jf];go_simp
   (iterate 5 (refine gH ?_; go_simp));refine gp.ie U ?_;clear U B;refine gp.sr λB U=>?_
   (iterate 3 (refine gH ?_; go_simp));refine wY O.out.cell ?_;go_simp
   (iterate 2 (refine gH ?_; go_simp));refine M6 (i:=6) (b:=b) 0 1 (sb++⟨#[127]⟩) rfl rfl rfl (by simp[gR,Plain]) (by kernel_rfl) (by omega) (by omega) (by rw[app1]; exact Ho (by decide)) (by rw[c5]; exact HS.out) ?_;rw[jf];go_simp
   (iterate 5 (refine gH ?_; go_simp));refine gp.ie U ?_;clear U B;refine gp.seq (jp λB U y2 Y=>?_);have O:c4 _:=O.out.low Y;clear Y;go_wp2;refine iE U ?_;clear U B;refine gp.qv trivial rfl (gp.skip ?_);refine gp.sr λB U=>?_
   (iterate 3 (refine gH ?_; go_simp));refine wY O.out.cell ?_;go_simp;refine O.out.VP.ask (i:=4) 0 0 20 ⟨#[]⟩ (tV ⟨HX.out.1.2,HX.out.2.1⟩ O.out.base) (by decide) λw3 u2 Y hs=>?_;have O:c4 _:=O.out.low Y;have S2:c4 (Ae _ _ _):=hs;clear Y hs;rw[jf];go_simp
   (iterate 5 (refine gH ?_; go_simp));refine gp.ie U ?_;clear U B;refine jp λB U y2 Y=>?_;have O:c4 _:=O.out.low Y;have q:=O.out.cell;have S2:c4 (Ae _ _ _):=S2.out.low Y;have C:=O.out.lg;clear Y;go_wp2_with fail;refine C.mono ?_;clear C q;rintro e w2 ⟨rfl,rfl⟩;go_wp2;refine iE U ?_;clear U B;refine jp λB U y2 Y=>?_;have O:c4 _:=O.out.low Y;have q:=O.out.cell;have C:=Np u u2 _ y2 O.out.says (S2.out.low Y) (by have:=KI K 0 ⟨#[]⟩ 0 20; omega);clear Y;go_wp2_with fail;refine C.mono ?_;clear C q;rintro e w2 ⟨rfl,hb⟩;have O:c4 _:=O.out.low (.of hb);clear hb S2;go_wp2;refine iE U ?_;clear U B;refine gp.seq (jp λB U y2 Y=>?_);have O:c4 _:=O.out.low Y;clear Y;go_wp2;refine iE U ?_;clear U B;refine gp.qv trivial rfl (gp.skip ?_);have HT:c4 _:=O.out.te;have aN:=O.out.te.rz
   obtain⟨c1,ag⟩:∃c1,c4 (zr sb.data.toList (⟨#[97]⟩:ByteArray).data.toList 5 0=c1/\(c1=0/\ac=true\/c1=1/\ac=false)):=by
    refine⟨_,rfl,?_⟩;unfold zr;rw[HN.out];cases ac
    .right; decide
    .left; decide
   obtain⟨c2,ah⟩:∃c2,c4 (zr (⟨#[122,122]⟩:ByteArray).data.toList sb.data.toList 5 0=c2/\(c2=0/\ad=true\/c2=2/\ad=false)):=by
    refine⟨_,rfl,?_⟩;unfold zr;rw[if_pos (by decide)];have:=aM.out;cases ad
    .right; rw[if_neg (of_decide_eq_false this)]; exact⟨rfl,rfl⟩
    .left; rw[if_pos (of_decide_eq_true this)]; exact⟨by decide,rfl⟩
   clear O;refine jp λB U y2 Y=>?_;have HT:c4 _:=HT.out.low Y;have q:=HT.out.cell;have C:=HT.out.Di (by omega) sb ⟨#[97]⟩ 5 0 (dm HS.out) (by decide);rw[ag.out.1]at C;clear Y;go_wp2_with fail;refine C.mono ?_;clear C q;rintro e w2 ⟨rfl,hT⟩;have HT:c4 _:=hT;clear hT;go_wp2;refine iE U ?_;clear U B;refine jp λB U y2 Y=>?_;have HT:c4 _:=HT.out.low Y;have q:=HT.out.cell;have C:=HT.out.Di (by omega) ⟨#[122,122]⟩ sb 5 0 (by decide) (dm HS.out);rw[ah.out.1]at C;clear Y;go_wp2_with fail;refine C.mono ?_;clear C q;rintro e w2 ⟨rfl,hT⟩;have HT:c4 _:=hT;clear hT;go_wp2;refine iE U ?_;clear U B;have h5:(wt<0\/(0<=wt/\1000000<wt)\/(0<=wt/\wt<=1000000/\tg<0)\/(0<=wt/\wt<=1000000/\0<=tg/\255<tg))\/(0<=wt/\wt<=1000000/\0<=tg/\tg<=255):=by omega
   rcases h5 with h5|h5
   case' inl=>
    have e3:zr (⟨#[122,122]⟩:ByteArray).data.toList (⟨#[98]⟩:ByteArray).data.toList wt tg=3:=by
     unfold zr;rw[if_pos (by decide),if_pos (by decide),if_pos (by omega)]
    rcases h5 with h|⟨h,h'⟩|⟨h,h',ai⟩|⟨h,h',ai,h3⟩
   case' inr=>
    have e3:zr (⟨#[122,122]⟩:ByteArray).data.toList (⟨#[98]⟩:ByteArray).data.toList wt tg=0:=by
     unfold zr;rw[if_pos (by decide),if_pos (by decide),if_neg (by omega)]
    obtain⟨h,h',ai,h3⟩:=h5
   all_goals
    refine jp λB U y2 Y=>?_;have HT:c4 _:=HT.out.low Y;clear Y;go_wp2;refine iE U ?_;clear U B;exact EH (Z:=Z) (W0:=W0) (Mp:=Mp) (wl:=wl) (W:=W) (b:=b) (m:=m) (n:=n) (wt:=wt) (tg:=tg) HX.out.2.2.1 HX.out.2.2.2.1 HX.out.2.2.2.2 HT.out aN ag.out.2 ah.out.2 e3 (by first|exact .inl ⟨rfl,rfl⟩|exact .inr ⟨rfl,rfl⟩|exact .inr ⟨rfl,decide_eq_false (by omega)⟩) _ _ _ _ _ _ _ _ _ _ _ _ _ _ _ _ _ _ _ _ _ _ _ _ _ _ _ _ _ _ _ _ _ _ _ _ _ _ _ _ _ _ _ _ _ _ _ _ _ _ _ _ _ _ _ _ _ _ _ _ _ _ _ _ _ _ _ _ _ _ _ _ _ _ _ _ _ _ _ _ _ _ _ _ _ _ _ _ _ _ _ _ _ _ _ _ _ _ _ _ _ _ _ _ _ _ _ _ _ _ _ _ _ _ _ _ _ _ _ _ _ _ _ _ _ _ _ _ _ _ _ _ _ _ _ _ _ _ _ _ _ _ _ _ _ _ _ _ _ _ _ _ _ _ _ _ _ _ _ _ _ _ _ _ _ _ _ _ _ _ _ _ _ _ _ _ _ _ _ _ _ _ _ _ _ _ _ _ _ _ _ _ _ _ _ _ _ _ _ _ _ _ _ _ _ _ _ _ _ _ _ _ _ _ _ _ _ _ _ _ _ _ _ _ _ _ _ _ _ _ _ _ _ _ _ _ _ _ _ _ _ _ _ _ _ _ _ _ _ _ _ _ _ _ _ _ _ _ _ _ _ _ _ _ _ _ _ _ _ _ _ _ _ _ _ _ _ _ _ _ _ _ _ _ _ _ _ _ _ _ _ _ _ _ _ _ _ _ _ _ _ _ _ _ _ _ _ _ _ _ _ _ _ _ _ _ _ _ _ _ _ _ _
theorem DO{la ta:Option Addr}{ls:List Raw}{rs:List Int}{lc rc:Nat}{n wt tg:Int}(hW:WT wl)(h5:5<=wl.heap.size)(aa:uJ wl la ls)(hT:Cb wl ta rs)(ab:ls.length<=lc)(ac:rs.length<=rc)(ad:ls.length<=9223372036854775807)(ae:rs.length<=9223372036854775807)(hs:sb.size+1<=cc)(n0 : -9223372036854775808<=n)(n1:n<=9223372036854775807)
  (hn:∀(w:World)(af:Array Value),qN wl w->af[12]?=some (.bool true)->gp (iK Z W0 Mp) [⟨11,af,[.code .ret]⟩] w []) :
  gp (iK Z W0 Mp) [⟨11,#[.slice la ls.length lc,.slice ta rs.length rc,.string sb,.int .i64 n,.int .i64 wt,.int .i64 tg,fr,fr,fr,fr,fr,fr,fr,fr,fr,fr,fr,fr,fr,fr,fr,fr,fr,fr,fr,fr,fr,fr,fr,fr,fr,fr,fr,fr,fr,fr,fr,fr,fr,fr,fr,fr,fr,fr,fr,fr,fr,fr,fr,fr,fr,fr,fr,fr,fr,fr,fr,fr,fr,fr,fr,fr,fr,fr,fr,fr,fr,fr,fr,fr,fr,fr,fr,fr,fr,fr,fr,fr,fr,fr,fr,fr,fr,fr,fr,fr,fr,fr,fr,fr,fr,fr,fr,fr,fr,fr,fr,fr,fr,fr,fr,fr,fr,fr,fr,fr,fr,fr,fr,fr,fr,fr,fr,fr,fr,fr,fr,fr,fr,fr,fr,fr,fr,fr,fr,fr,fr,fr,fr,fr,fr,fr,fr,fr,fr,fr,fr,fr,fr,fr,fr,fr,fr,fr,fr,fr,fr,fr,fr,fr,fr,fr,fr,fr,fr,fr,fr,fr,fr,fr,fr,fr,fr,fr,fr,fr,fr,fr,fr,fr,fr,fr,fr,fr,fr,fr,fr,fr,fr,fr,fr,fr,fr,fr,fr,fr,fr,fr,fr,fr,fr,fr,fr,fr,fr,fr,fr,fr,fr,fr,fr,fr,fr,fr,fr,fr,fr,fr,fr,fr,fr,fr,fr,fr,fr,fr,fr,fr,fr,fr,fr,fr,fr,fr,fr,fr,fr,fr,fr,fr,fr,fr,fr,fr,fr,fr,fr,fr,fr,fr,fr,fr,fr,fr,fr,fr,fr,fr,fr,fr,fr,fr,fr,fr,fr,fr,fr,fr,fr,fr,fr,fr,fr,fr,fr,fr,fr,fr,fr,fr,fr,fr,fr,fr,fr,fr,fr,fr,fr,fr,fr,fr,fr,fr,fr,fr,fr,fr,fr,fr,fr,fr,fr,fr,fr,fr,fr,fr,fr,fr,fr,fr,fr,fr,fr,fr,fr,fr,fr,fr,fr,fr,fr,fr,fr,fr,fr,fr,fr,fr,fr,fr,fr,fr,fr,fr,fr,fr,fr,fr,fr,fr,fr],[.code (ic Tryz.f11)]⟩] wl []:=by
 have Y:c4 _:=And.intro hW (And.intro h5 (And.intro aa (And.intro hT (And.intro ab (And.intro ac (And.intro ad ae))))));have HX:c4 _:=And.intro n0 (And.intro n1 (And.intro hn hs));have ag:sb.size<=9223372036854775807:=by unfold cc at hs; omega
 clear hW h5 aa hT ab ac ad ae n0 n1 hn hs;show gp _ [⟨_,_,[.code (.seq (.region 0 _ false) (.seq (.region 1 _ false) (.seq (.seq (.region 2 _ false) (.cond _ _ .skip)) (.seq (.region 4 _ false) (.seq (.region 5 _ false) (.seq (.region 6 _ false) (.seq (.region 7 _ false) _)))))))]⟩] _ _;refine gp.sr λU B=>?_
 (refine gH ?_; go_simp);refine gp.ie B ?_;clear B U;refine gp.sr λU B=>?_
 (iterate 2 (refine gH ?_; go_simp));refine uT.fill (i:=2) la ta ls rs lc rc Y.out.1 Y.out.2.1 Y.out.2.2.1 Y.out.2.2.2.1 Y.out.2.2.2.2.1 Y.out.2.2.2.2.2.1 Y.out.2.2.2.2.2.2.1 Y.out.2.2.2.2.2.2.2 λw b W O he=>?_;have E:c4 (uT _ _ _ _ _):=he;have HL:c4 _:=O;clear O he;rw[jf];go_simp
 (refine gH ?_; go_simp);refine gp.ie B ?_;clear B U;refine gp.seq (jp λU B y O=>?_);have E:c4 (uT wl y b W (Du ls)):=E.out.low O;have HL:c4 _:=HL.out.trans O;clear O;go_wp2;refine iE B ?_;clear B U;refine gp.qv trivial rfl (gp.skip ?_);refine gp.sr λU B=>?_
 (iterate 3 (refine gH ?_; go_simp));refine wY E.out.cell ?_;go_simp;refine E.out.UF (i:=4) 0 0 20 ⟨#[]⟩ (tV ⟨Y.out.1.2,Y.out.2.1⟩ HL.out) (by decide) λw2 u m _ hk=>?_;have HE:c4 _:=hk;clear hk HL E;rw[jf];go_simp
 (iterate 5 (refine gH ?_; go_simp));refine gp.ie B ?_;clear B U;refine jp λU B y O=>?_;have HE:c4 _:=HE.out.low O;have q:=HE.out.cell;have C:=HE.out.lg;clear O;go_wp2_with fail;refine C.mono ?_;clear C;rintro e w3 ⟨rfl,rfl⟩;clear q;go_wp2;refine iE B ?_;clear B U;have h4:(sb.size:Int)<=0\/(0<(sb.size:Int)/\(sb.size:Int)<=8)\/(0<(sb.size:Int)/\8<(sb.size:Int)/\(sb.size:Int)<=24)\/(0<(sb.size:Int)/\24<(sb.size:Int)):=by omega
 refine jp λU B y2 O=>?_;have HE:c4 _:=HE.out.low O;clear O;rcases h4 with h|⟨h,h'⟩|⟨h,h',ah⟩|⟨h,h'⟩
 all_goals
  go_wp2;refine iE B ?_;clear B U;refine jp λU B y3 O=>?_;have HE:c4 _:=HE.out.low O;clear O;go_wp2;refine iE B ?_;clear B U;exact E2 Y.out.1 Y.out.2.1 HX.out.2.2.2 HX.out.1 HX.out.2.1 HE.out (by first|exact(decide_eq_true (by omega)).symm|exact(decide_eq_false (by omega)).symm|(rw[decide_eq_decide]; omega)) (by first|exact(decide_eq_true (by omega)).symm|exact(decide_eq_false (by omega)).symm|(rw[decide_eq_decide]; omega)) HX.out.2.2.1 _ _ _ _ _ _ _ _ _ _ _ _ _ _ _ _ _ _ _ _ _ _ _ _ _ _ _ _ _ _ _ _ _ _ _ _
end
end
end Go.Proofs.YtocbogeoffeolaaGreatDoor
