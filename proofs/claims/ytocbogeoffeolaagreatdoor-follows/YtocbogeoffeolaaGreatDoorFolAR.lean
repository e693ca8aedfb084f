import Derived.Test.YtocbogeoffeolaaGreatDoorFolAQ
import Derived.Test.YtocbogeoffeolaaGreatDoorChecked
set_option linter.unusedVariables false
set_option linter.unusedSimpArgs false
set_option maxHeartbeats 8000000
set_option maxRecDepth 1000000
open Array renaming getElem?_eq_some_iff->a4,getElem?_eq_none->a5,all_eq_true->a6
namespace Go.Proofs.YtocbogeoffeolaaGreatDoor
open Go.Proofs.Tryz
section
open Go.Conc
variable {st:Bool} {f n:Nat} {jz gl:Nat->Bool} {P:Program} {m:Ren}
def Nk(M:Nat)(n:Nat):Bool:=M.testBit n
def Sn(P:Program)(jz gl:Nat->Bool)(st:Bool)(f:Nat):Bool:=match P.funcs[f]? with
 |some fn=>fn.name != "runtime.NumGoroutine" && (match fn.body with
  |some c=>mM (λo=>Ke P jz gl st o.op) c
  |none=>false)
 |none=>false
def NL(P:Program)(jz gl:Nat->Bool)(st:Bool):Oper->Prop:=λo=>Ke P jz gl st o.op=true
theorem QO(h:Sn P jz gl st f=true)(hm:m.ok=NL P jz gl st):pW P m f:=by
 unfold Sn at h
 cases D:P.funcs[f]? with
 |none=>rw[D]at h; cases h
 |some fn=>
  rw[D]at h;simp only[Bool.and_eq_true]at h;obtain⟨O,y⟩:=h;refine⟨fn,D,by simpa using O,?_⟩
  cases hb:fn.body with
  |none=>rw[hb]at y; cases y
  |some c=>
   rw[hb]at y;exact .inl ⟨c,rfl,by rw[hm]; exact qS y⟩
def OG(P:Program)(jz gl:Nat->Bool)(st:Bool)(ex:Nat->Bool)(n:Nat):Bool:=(List.range n).all λf=>!jz f || ex f || Sn P jz gl st f
theorem De{ex:Nat->Bool}(h:OG P jz gl st ex n=true)(O:∀f,jz f=true->f<n)(hm:m.ok=NL P jz gl st)(y:∀f,ex f=true->jz f=true->pW P m f):∀f,jz f=true->pW P m f:=by
 intro f D;unfold OG at h;rw[List.all_eq_true]at h;have:=h f (by simpa using O f D);simp only[D,Bool.not_true,Bool.false_or,Bool.or_eq_true]at this;rcases this with x|x
 .exact y f x D
 .exact QO x hm
def QP(P:Program):Bool:=P.toTables.types.all λi=>match i.zero with
 |some v=>Fp 40 v
 |none=>true
def Re(P:Program):Bool:=P.toTables.types.all λi=>(i.methods.find? (·.name == "")).isNone
theorem MK(h:QP P=true)(hmb:Re P=true):oJ P:=by
 have O:∀(t:Nat)(i:TypeInfo)v,P.toTables.types[t]?=some i->i.zero=some v->ow v:=by
  intro t i v ht D m;unfold QP at h;rw[a6]at h;obtain⟨y,rfl⟩:=a4.1 ht;have:=h t y;rw[D]at this;exact zR this m
 have U:∀(t:Nat)(i:TypeInfo),P.toTables.types[t]?=some i->i.methods.find? (·.name == "")=none:=by
  intro t i ht;unfold Re at hmb;rw[a6]at hmb;obtain⟨y,rfl⟩:=a4.1 ht;simpa using hmb t y
 refine⟨λt i v ht D m=>?_,λt i ht=>?_⟩
 .have ht:P.toTables.info? t=some i:=ht;unfold Tables.info? at ht;split at ht
  .exact O t i v ht D m
  .exact xR O _ t i v ht D m
 .have ht:P.toTables.info? t=some i:=ht;unfold Tables.info? at ht;split at ht
  .exact U t i ht
  .exact H7 U _ t i ht
def SL:Nat:=16296291696013673141605707346198838935449560434141168097322037386652118454261163305065086976
def Rh:Nat:=1001570083691504317195401104025185627287091139835923004101470451620903362718842486784
def TJ:Nat:=7237005590390986380874373471172107595023005440485116358029236060886847717376
def wG:Nat->Bool:=Nk SL
def xL:Nat->Bool:=Nk Rh
def Of:Nat->Bool:=Nk TJ
def tP(g:Nat):Bool:=g==0 || g==2 || g==3 || g==4
def E3(_:Nat):Bool:=false
theorem MA:oJ prog:=MK (by kernel_rfl) (by kernel_rfl)
theorem RY:OG prog wG tP true (λf=>f==100 || f==232) 304=true:=by kernel_rfl
theorem sendAll:OG prog xL E3 false (λ_=>false) 304=true:=by kernel_rfl
theorem SC:OG prog Of E3 false (λ_=>false) 304=true:=by kernel_rfl
theorem follows:prog.follows .rangeFuncRecover=true:=by kernel_rfl
theorem xT:prog.globals.size=5:=by kernel_rfl
theorem ur{M:Nat}(y:M >>> n=0)(h:M.testBit f=true):f<n:=by
 apply Classical.byContradiction;intro D;have e:(M >>> n).testBit (f-n)=M.testBit f:=by rw[Nat.testBit_shiftRight,Nat.add_sub_of_le (Nat.le_of_not_lt D)]
 rw[y,h,Nat.zero_testBit]at e;cases e
theorem Si(f:Nat)(h:wG f=true):f<304:=ur (M:=SL) (by kernel_rfl) h
theorem Pr(f:Nat)(h:xL f=true):f<304:=ur (M:=Rh) (by kernel_rfl) h
theorem Tf(f:Nat)(h:Of f=true):f<304:=ur (M:=TJ) (by kernel_rfl) h
end
section
open Go.Conc
theorem DQ{P:Program}{jz gl:Nat->Bool}{st:Bool}{m:Ren}(y:m.ok=NL P jz gl st)(D:m.jz=λf=>jz f=true)(W:vy P m)(O:st=true->jY m)(Y:∀g,gl g=true->m.blk g=some g):oh P m (λg=>gl g=true) st:=
 ⟨W,O,λh=>h.elim,Y,λo U=>by rw[y]at U; rw[D]; exact Ed U⟩
theorem KN:Extern.findNext f100=none:=by kernel_rfl
theorem KP:Extern.findNext f232=none:=by kernel_rfl
theorem Li:Extern.find f100=some (Extern.SlicesOverlaps.overlaps f100.params f100.resultTypes):=by kernel_rfl
theorem LK:Extern.find f232=some Extern.BytealgCompare.compare:=by kernel_rfl
section
variable {m:Ren}
theorem Q'(h:jY m):pW prog m 100:=
 ⟨f100,by kernel_rfl,by simp[f100],.inr ⟨by kernel_rfl,KN,_,Li,λO a U y D=>GM (h.mono y) D⟩⟩
theorem Q5:pW prog m 232:=
 ⟨f232,by kernel_rfl,by simp[f232],.inr ⟨by kernel_rfl,KP,_,LK,λy a D O h=>Lr h⟩⟩
theorem RR(h:m.ok=NL prog wG tP true)(y:m.jz=λf=>wG f=true)(W:m.G=5)(D:jY m)(Y:∀g,tP g=true->m.blk g=some g):oh prog m (λg=>tP g=true) true:=
 DQ h y ⟨MA,by rw[W,xT],λf O=>by
  rw[y]at O;refine De RY Si h (λf U _=>?_) f O;simp only[Bool.or_eq_true,beq_iff_eq]at U;rcases U with rfl|rfl
  .exact Q' D
  .exact Q5,follows⟩ (λ_=>D) Y
theorem Po(y:m.ok=NL prog xL E3 false)(D:m.jz=λf=>xL f=true)(U:m.G=5):oh prog m (λg=>E3 g=true) false:=
 DQ y D ⟨MA,by rw[U,xT],λf O=>by
  rw[D]at O
  exact De sendAll Pr y (λf W _=>by cases W) f O,follows⟩ (λh=>by cases h) (λg Y=>by cases Y)
theorem S7(y:m.ok=NL prog Of E3 false)(D:m.jz=λf=>Of f=true)(U:m.G=5):oh prog m (λg=>E3 g=true) false:=
 DQ y D ⟨MA,by rw[U,xT],λf O=>by
  rw[D]at O
  exact De SC Tf y (λf W _=>by cases W) f O,follows⟩ (λh=>by cases h) (λg Y=>by cases Y)
end
end
section
open Go.Conc
variable {c i:Nat} {B:Nat->Nat} {M:Option Nat}
def Sw:Obj:=.cells #[] 0 (0,0)
def JP(C:Nat->Obj)(ch ex:Obj):Array Obj:=#[Sw,Sw,Sw,Sw,Sw,C 0,C 1,C 2,C 3,Sw,ch,ex]
def I6(B:Nat->Nat)(M:Option Nat)(r:Nat):Option Nat:=if 5<=r/\r<9 then some (B (r-5))else if r=11 then M else none
structure Ty(B:Nat->Nat)(M:Option Nat):Prop where
 low:∀i,i<4->5<=B i
 inj:∀i j,i<4->j<4->B i=B j->i=j
 TE:∀b,M=some b->5<=b
 TG:∀b i,M=some b->i<4->B i≠b
theorem kH{r b:Nat}(h:I6 B M r=some b):(∃i,i<4/\r=5+i/\b=B i)\/(r=11/\M=some b):=by
 unfold I6 at h;split at h
 .rename_i y;exact .inl ⟨r-5,by omega,by omega,(Option.some.inj h).symm⟩
 .split at h
  .rename_i y; exact .inr ⟨y,h⟩
  .cases h
theorem Kv(B:Nat->Nat)(M:Option Nat)(hi:i<4):I6 B M (5+i)=some (B i):=by
 unfold I6;rw[if_pos (by omega)];congr 2;omega
def B7{B:Nat->Nat}{M:Option Nat}(h:Ty B M)(c:Nat)(ch:Obj):Ren where
 blk:=I6 B M
 ch:=λr=>if r=10 then some c else none
 loose:=λr=>5<=r/\r<9
 ok:=NL prog xL E3 false
 jz:=λf=>xL f=true
 kL:=False
 dead:=λr=>r=9
 dm:=λ_=>0
 tI:=λ_ _=>none
 nJ:=λr=>if r=10 then some ch else none
 G:=5
 qG:=λr r' y=>by
  rcases kH y with⟨i,hi,rfl,rfl⟩|⟨rfl,D⟩
  .have:=h.low i hi
   constructor<;>intro x<;>omega
  .have:=h.TE r' D
   constructor<;>intro x<;>omega
 inj:=λr s t y O=>by
  rcases kH y with⟨i,hi,rfl,rfl⟩|⟨rfl,D⟩
  .rcases kH O with⟨j,U,rfl,e⟩|⟨rfl,D⟩
   .rw[h.inj i j hi U e]
   .exact absurd rfl (h.TG _ i D hi)
  .rcases kH O with⟨j,U,rfl,rfl⟩|⟨rfl,_⟩
   .exact absurd rfl (h.TG _ j D U)
   .rfl
 wD:=λr s t y O=>by
  split at y
  .split at O
   .rename_i W Y; rw[W,Y]
   .cases O
  .cases y
theorem NC(h:Ty B M)(c:Nat)(ch:Obj):oh prog (B7 h c ch) (λg=>E3 g=true) false:=Po rfl rfl rfl
theorem Cc(C:Nat->Obj)(ch ex:Obj)(hi:i<4):(JP C ch ex)[5+i]?=some (C i):=by
 match i,hi with
 |0,_=>rfl
 |1,_=>rfl
 |2,_=>rfl
 |3,_=>rfl
theorem WR.RH(h:Ty B M){C:Nat->Obj}{cap:Nat}{ex:Obj}{U w:World}(O:U.heap=JP C (.chan cap #[] false 0 0 false) ex)(aa:w.os=U.os)(ab:5<=w.heap.size)(hc:c<w.heap.size)
  (D:∀i,i<4->∃a W e f',C i=.cells a e (0,a.size)/\w.heap[B i]?=some (.cells W e f')/\iI (B7 h c (.chan cap #[] false 0 0 false)) a W)
  (hM:∀b,M=some b->∃o',w.heap[b]?=some o'/\OR (B7 h c (.chan cap #[] false 0 0 false)) ex o'/\∀a e f,ex≠.cells a e f):WR (B7 h c (.chan cap #[] false 0 0 false)) U w:=by
 have get:∀i,i<4->U.heap[5+i]?=some (C i):=λi hi=>by rw[O]; exact Cc C _ ex hi
 have Y:U.heap[11]?=some ex:=by rw[O]; rfl
 refine⟨λr r' y=>?_,λr r' c1 e1 f1 c2 e2 f2 y h1 h2 hn=>?_,λr r' c1 e1 f1 c2 e2 f2 y h1 h2 hl=>?_,λr r' y=>?_,(by rw[O]; show 5<=12; omega),ab,aa,λr o y=>?_,λr r' y hl=>?_,λr y=>?_,λr i v hv=>(by cases hv)⟩
 .rcases kH y with⟨i,hi,rfl,rfl⟩|⟨rfl,hm⟩
  .obtain⟨a,W,e,f',x1,x2,x3⟩:=D i hi;exact⟨_,_,by rw[get i hi,x1],x2,.cells e _ f' x3⟩
  .obtain⟨o',x1,x2,_⟩:=hM r' hm;exact⟨_,_,Y,x1,x2⟩
 .rcases kH y with⟨i,hi,rfl,rfl⟩|⟨rfl,hm⟩
  .exact absurd (show(B7 h c (.chan cap #[] false 0 0 false)).loose (5+i)from⟨by omega,by omega⟩) hn
  .rw[Y]at h1;obtain⟨_,_,_,x⟩:=hM r' hm;cases h1;exact absurd rfl (x _ _ _)
 .rcases kH y with⟨i,hi,rfl,rfl⟩|⟨rfl,hm⟩
  .obtain⟨a,W,e,f',x1,x2,x3⟩:=D i hi;rw[get i hi,x1]at h1;cases h1;exact λo ho=>⟨Nat.zero_le _,ho⟩
  .exact absurd hl.2 (by omega)
 .have y:(if r=10 then some c else none)=some r':=y;split at y
  .rename_i e;cases y;exact⟨by rw[O,e]; show 10<12; omega,hc⟩
  .cases y
 .have y:(if r=10 then some (.chan cap #[] false 0 0 false)else none)=some o:=y;split at y
  .rename_i e;cases y;exact⟨by rw[O,e]; rfl,_,_,_,_,_,_,rfl⟩
  .cases y
 .rcases kH y with⟨i,hi,rfl,rfl⟩|⟨rfl,hm⟩
  .obtain⟨a,W,e,f',x1,x2,x3⟩:=D i hi;exact⟨_,_,_,by rw[get i hi,x1]⟩
  .exact absurd hl.2 (by omega)
 .have e:r=9:=y;subst e;exact⟨by simp[B7,I6],_,_,_,by rw[O]; rfl⟩
def Nt(P:Program)(f:FuncId)(L:List Value)(h:World->Prop)(S:LS):Prop:=S.cs=[door P]/\S.fr.mode=.returning/\S.fr.defers=[⟨.collected 9,#[.chan (some 10)]⟩]/\S.fr.fn=f/\Holds S 10 L/\h S.w
def RJ(P:Program)(f:FuncId)(L:List Value)(c:Nat)(h:World->Prop)(mT:Nat->Nat->Obj->Prop):pz where
 gl:=λg=>E3 g=true
 T:=[yx P]
 Stop:=Nt P f L h
 r:=10
 c:=c
 rd:=9
 L:=L
 mT:=mT
theorem P2{f:FuncId}{L:List Value}{y:World->Prop}{mT:Nat->Nat->Obj->Prop}{jZ:Func}(hf:prog.funcs[f]?=some jZ)(hr:jZ.results=#[])(hn:jZ.norace=false)(hb:∀w τ,y (tp w τ)->y w)(hk:∀w,y w->∀r b o,mT r b o->w.heap[r]?=some o/\∀(m:Ren)Y,OR m o Y->Y=o):(RJ prog f L c y mT).Ok prog where
 blind:=λS τ ⟨D,O,U,W,h5,h6⟩=>⟨D,O,U,W,h5,hb _ _ h6⟩
 holds:=λS h=>h.2.2.2.2.1;S9:=λS ⟨D,O,U,W,_⟩=>⟨D,O,U,jZ,by rw[W]; exact hf,hr,hn⟩;back:=λS h r b o x=>hk S.w h.2.2.2.2.2 r b o x
 TM:=⟨yx prog,rfl,rfl,rfl,by
  show prog.funcs[prog.funcs.size]?=none
  simp,rfl⟩
end
section
open Go.Conc
variable {m:Ren}
def Bw(b:Nat->Nat):Array Value:=#[.pointer (some ⟨b 0,0,none⟩),.pointer (some ⟨b 1,0,none⟩),.pointer (some ⟨b 2,0,none⟩),.pointer (some ⟨b 3,0,none⟩)]
theorem Oc(b:Nat->Nat){i:Nat}(hi:i<4):(Bw b)[i]?=some (.pointer (some ⟨b i,0,none⟩)):=by
 match i,hi with
 |0,_=>rfl
 |1,_=>rfl
 |2,_=>rfl
 |3,_=>rfl
theorem O1{b B:Nat->Nat}(h:∀i,i<4->m.blk (b i)=some (B i)):iI m (Bw b) (Bw B):=
 .cons (.ptr (.mk (h 0 (by omega)))) (.cons (.ptr (.mk (h 1 (by omega)))) (.cons (.ptr (.mk (h 2 (by omega)))) (.cons (.ptr (.mk (h 3 (by omega)))) .nil)))
theorem Ol{b:Nat->Nat}{y:Array Value}(h:iI m (Bw b) y):∃B:Nat->Nat,y=Bw B/\∀i,i<4->m.blk (b i)=some (B i):=by
 have D:=h.size
 have get:∀i,i<4->∃B,y[i]?=some (.pointer (some ⟨B,0,none⟩))/\m.blk (b i)=some B:=by
  intro i hi;obtain⟨v',O,U⟩:=h.get (Oc b hi)
  cases U with
  |ptr W=>
   cases W with
   |mk hb=>exact⟨_,O,hb⟩
 obtain⟨Y,a0,e0⟩:=get 0 (by omega);obtain⟨B1,a1,e1⟩:=get 1 (by omega);obtain⟨B2,a2,e2⟩:=get 2 (by omega);obtain⟨B3,a3,e3⟩:=get 3 (by omega);refine⟨λi=>match i with|0=>Y|1=>B1|2=>B2|_=>B3,?_,λi hi=>?_⟩
 .apply Array.ext_getElem?;intro i
  match i with
  |0=>rw[a0]; rfl
  |1=>rw[a1]; rfl
  |2=>rw[a2]; rfl
  |3=>rw[a3]; rfl
  |i+4=>
   have:y.size=4:=D.symm;rw[a5 (by omega),a5 (by show 4<=i+4; omega)]
 .match i,hi with
  |0,_=>exact e0
  |1,_=>exact e1
  |2,_=>exact e2
  |3,_=>exact e3
theorem Rg.B8{P:Program}{E Uf:Env P}(h:Rg E m)(y:List Nat)(D:∀m:Ren,m.ok=Uf.ok->m.jz=Uf.jz->m.G=P.globals.size->oh P m Uf.gl Uf.st)(O:Uf.jz=E.jz)(U:Uf.ok=E.ok)(W:Uf.X (m.B8 y)):Rg Uf (m.B8 y):=
 ⟨D _ (h.RO.trans U.symm) (h.jz.trans O.symm) h.ry.env.G,h.kL,h.qD,h.jz.trans O.symm,h.RO.trans U.symm,W⟩
structure TT(E Uf:Env prog)(wl:World)(rc:Nat)(b:Nat->Nat)(cm cd:Nat->Array Value)(te:Nat->TypeId)(fz:Nat->Nat×Nat)(M:Option Nat)(ex:Obj):Prop where
 z:Uf.Z=E.Z
 t:Uf.T=E.T
 w:Uf.w0=E.w0
 jz:Uf.jz=E.jz
 ok:Uf.ok=E.ok
 ry:∀m:Ren,m.ok=Uf.ok->m.jz=Uf.jz->m.G=prog.globals.size->oh prog m Uf.gl Uf.st
 x:∀m,Rg E m->Uf.X (m.B8 [b 0,b 1,b 2,b 3])
 fix:∀q,Uf.jv q↔E.jv q/\M≠some q
 low:∀i,i<4->5<=b i
 inj:∀i j,i<4->j<4->b i=b j->i=j
 cells:∀i,i<4->wl.heap[b i]?=some (.cells (cm i) (te i) (fz i))
 live:∀m,Rg E m->∀i,i<4->¬m.dead (b i)
 m0:cm 0=#[.chan (some rc)]
 d0:cd 0=#[.chan (some 10)]
 conv:∀i,1<=i->i<4->∀(m mi:Ren)w a',Rg E m->WR m wl w->(∀q,M=some q->mi.blk 11=some q)->iI m (cm i) a'->iI mi (cd i) a'
 map:∀q,M=some q->5<=q/\E.jv q/\E.w0.heap[q]?=some ex/\(∀m:Ren,OR m ex ex)/\(∀(m:Ren)o',OR m ex o'->o'=ex)/\(∀a e f,ex≠.cells a e f)/\∀(m:Ren)(r:Nat)(o:Obj),wl.heap[r]?=some o->¬OR m o ex
def wF(wl:World)(cd:Nat->Array Value)(te:Nat->TypeId)(cap:Nat)(ex:Obj):World:={wl with heap:=JP (λi=>.cells (cd i) (te i) (0,(cd i).size)) (.chan cap #[] false 0 0 false) ex}
def DI(f:FuncId)(n:Nat)(s:Tmp)(rest:Code):Frame:=⟨f,(Bw (λi=>5+i)++Array.replicate (n-4) undef).setIfInBounds s (.chan (some 10)),[.code rest],[⟨.collected 9,#[.chan (some 10)]⟩],.run,.normal,none⟩
theorem O3{E Uf:Env prog}{f:FuncId}{jZ:Func}{s:Tmp}{ty:TypeId}{ops:Array Oper}{rest:Code}{wl:World}{rc:Nat}{b:Nat->Nat}{cm cd:Nat->Array Value}{te:Nat->TypeId}{fz:Nat->Nat×Nat}{M:Option Nat}{ex:Obj}{L:List Value}{cap:Nat}{os:List OF}
  (hc:BA prog f jZ s ty ops rest) (ao:jZ.results=#[]) (ap:jZ.norace=false) (aw:s≠0) (hs:s<jZ.ntmps) (hn:4<=jZ.ntmps) (ax:mM (λo=>Ke prog xL E3 false o.op) rest=true) (hL:∀v∈L,Flat v) (y:TT E Uf wl rc b cm cd te fz M ex)
  (aq:∀τ,∃n U,runN prog n (lone (DI f jZ.ntmps s rest) [door prog] (tp (wF wl cd te cap ex) τ))=.next (LS.m U)/\Nt prog f L (λw=>M=none\/w.heap[11]?=some ex) U) :
  Sends E Uf f (Bw b) os os wl (xa wl [b 0,b 1,b 2,b 3]) rc L:=by
 refine⟨y.z,y.t,y.w,λq W=>((y.fix q).1 W).1,λv hv=>(hL v hv).eq,λm ay w c aa af hw az ar ab=>?_⟩;obtain⟨B,rfl,hB⟩:=Ol af;have hG:m.G=5:=by rw[aa.ry.env.G,xT]
 have ag:∀r,r∈[b 0,b 1,b 2,b 3]↔∃i,i<4/\r=b i:=by
  intro r;constructor
  .intro h;simp only[List.mem_cons,List.not_mem_nil,or_false]at h;rcases h with h|h|h|h
   .exact⟨0,by omega,h⟩
   .exact⟨1,by omega,h⟩
   .exact⟨2,by omega,h⟩
   .exact⟨3,by omega,h⟩
  .rintro⟨i,hi,rfl⟩
   match i,hi with
   |0,_=>simp
   |1,_=>simp
   |2,_=>simp
   |3,_=>simp
 have ah:∀q,M=some q->∀r,m.blk r≠some q:=by
  intro q W r D;obtain⟨_,O,h3,_,_,_,h7⟩:=y.map q W;obtain⟨o,o',e1,e2,e3⟩:=hw.obj r q D;rw[ab q O,h3]at e2;cases e2;exact h7 m r o e1 e3
 have hS:Ty B M:=by
  refine⟨λi hi=>?_,λi j hi hj e=>?_,λq W=>(y.map q W).1,λq i W hi e=>?_⟩
  .have:=(m.qG (b i) (B i) (hB i hi)).2;rw[hG]at this;have h5:=y.low i hi;apply Classical.byContradiction;intro hx;have:=this (by omega);omega
  .exact y.inj i j hi hj (m.inj _ _ _ (hB i hi) (e▸hB j hj))
  .exact ah q W (b i) (e▸hB i hi)
 let mi:=B7 hS c (.chan cap #[] false 0 0 false);have ac:∀q,M=some q->mi.blk 11=some q:=λq W=>by simp[mi,B7,I6,W]
 have ad:mi.ch 10=some c:=by simp[mi,B7]
 have au:c<w.heap.size:=by
  obtain⟨s,r,hx⟩:=ar;exact mG hx
 have ai:∀i,i<4->∃a',∃f',w.heap[B i]?=some (.cells a' (te i) f')/\iI m (cm i) a':=by
  intro i hi;obtain⟨o,o',Y,O,h3⟩:=hw.obj (b i) (B i) (hB i hi);rw[y.cells i hi]at Y;cases Y
  cases h3 with
  |cells _ _ f' ha=>exact⟨_,f',O,ha⟩
 have aj:∀i,i<4->∀a',iI m (cm i) a'->iI mi (cd i) a':=by
  intro i hi a' ha;by_cases h0:i=0
  .subst h0;rw[y.m0]at ha;rw[y.d0];obtain⟨al⟩:=a';unfold iI at ha⊢;simp only at ha⊢
   cases ha with
   |cons hv hn=>
    cases hn
    cases hv with
    |chan hb=>
     rw[az]at hb;cases hb;exact .cons (.chan ad) .nil
  .exact y.conv i (by omega) hi m mi w a' aa hw ac ha
 have a0:WR mi (wF wl cd te cap ex) w:=by
  refine WR.RH (C:=λi=>.cells (cd i) (te i) (0,(cd i).size)) (ex:=ex) hS rfl hw.os (by have:=hw.J5; omega) au (λi hi=>?_) (λq W=>?_)
  .obtain⟨a',f',Y,O⟩:=ai i hi;exact⟨cd i,a',te i,f',rfl,Y,aj i hi a' O⟩
  .obtain⟨_,O,h3,h4,_,h6,_⟩:=y.map q W;exact⟨ex,by rw[ab q O,h3],h4 mi,h6⟩
 have ak:∀r r',mi.ch r=some r'->r=10:=by
  intro r r' D;have D:(if r=10 then some c else none)=some r':=D;split at D
  .rename_i e; exact e
  .cases D
 have av:=NC hS c (.chan cap #[] false 0 0 false)
 have ae:(RJ prog f L c (λw=>M=none\/w.heap[11]?=some ex) (λr q o=>r=11/\M=some q/\o=ex)).Ren mi:=
  ⟨ad,ak,rfl,λr q o ⟨Y,O,_⟩=>by rw[Y]; exact ac q O⟩
 have am:Open mi:=λr r' D=>by
  have D:(if r=10 then some c else none)=some r':=D;split at D
  .rename_i e;exact⟨cap,#[],0,0,false,by simp[mi,B7,e]⟩
  .cases D
 let S:LS:=⟨DI f jZ.ntmps s rest,[door prog],wF wl cd te cap ex⟩;have an:=m.Cl [b 0,b 1,b 2,b 3];refine⟨RJ prog f L c (λw=>M=none\/w.heap[11]?=some ex) (λr q o=>r=11/\M=some q/\o=ex),mi,S,5,m.B8 [b 0,b 1,b 2,b 3],rfl,rfl,P2 hc.fn ao ap (λw τ h=>h) (λw hk r q o ⟨Y,O,h3⟩=>?_),ae,λτ _=>?_,?_,a0,?_,aa.B8 _ y.ry y.jz y.ok (y.x m aa),hw.B8 (λr D=>?_) (λr D=>?_),rfl,λl hl=>hl.mW an,λr q D=>⟨r,D,λh=>.inl h⟩,λr q D=>?_,λr r' q Y O=>?_,λr q D hf=>?_,λq W=>?_⟩
 .subst Y h3;obtain⟨_,_,_,_,h5,_⟩:=y.map q O;exact⟨hk.resolve_left (by rw[O]; simp),h5⟩
 .obtain⟨n,U,Y,O⟩:=aq τ;exact⟨n,U,Y,O,by rw[O.1]; simp⟩
 .exact⟨cap,#[],0,0,false,rfl,rfl⟩
 .refine Bc (cap:=Bw λi=>5+i) (p:=⟨5,0,none⟩) hc (by rw[hc.fn]; simp[ap]) av (λh=>h) am ae rfl (O1 λi hi=>Kv B M hi) rfl aw hs hn ?_ (qS ax) rfl rfl;show(wF wl cd te cap ex).cell? ⟨5,0,none⟩=_
  have hg:(wF wl cd te cap ex).heap[5]?=some (.cells #[.chan (some 10)] (te 0) (0,1)):=by
   show(JP _ _ _)[5]?=_;rw[show(5:Nat)=5+0 from rfl,Cc _ _ _ (by omega:(0:Nat)<4),y.d0];rfl
  unfold World.cell?;simp only[hg];rfl
 .obtain⟨i,hi,rfl⟩:=(ag r).1 D;exact⟨_,_,_,y.cells i hi⟩
 .obtain⟨i,hi,rfl⟩:=(ag r).1 D;exact y.live m aa i hi
 .rcases kH D with⟨i,hi,rfl,rfl⟩|⟨rfl,hm⟩
  .exact .inl ⟨b i,hB i hi,λ_=>⟨by omega,by omega⟩⟩
  .obtain⟨_,O,_,_,_,_,h7⟩:=y.map q hm;exact .inr ⟨O,ah q hm,λhx=>((y.fix q).1 hx).2 hm⟩
 .rcases kH O with⟨i,hi,rfl,rfl⟩|⟨rfl,hm⟩
  .have:r=b i:=m.inj _ _ _ Y (hB i hi);exact⟨.inr ((ag r).2 ⟨i,hi,this⟩),by omega,by omega⟩
  .exact absurd Y (ah q hm r)
 .rcases kH D with⟨i,hi,rfl,rfl⟩|⟨rfl,hm⟩
  .exact⟨by omega,by omega⟩
  .exact absurd hm ((y.fix q).1 hf).2
 .by_cases hm:M=some q
  .exact .inr ⟨11,ex,⟨rfl,hm,rfl⟩,(y.map q hm).2.2.1⟩
  .exact .inl ((y.fix q).2 ⟨W,hm⟩)
end
section
open Go.Conc Go.RowKit
def I3(f:Func):Code:=match f.body with
 |some (.seq _ r)=>r
 |_=>.skip
def opsOf(f:Func):Array Oper:=match f.body with
 |some (.seq (.region _ o _) _)=>o
 |_=>#[]
theorem PA(a:Addr)(v:Value)(w:World)(h:w.cell? a=some v):(Instr.loadAt 167 (.pointer (some a)) >>= λv=>(pure (.value v):Sem Go.Next)).runT prog w #[]=(.ok (.value v) w,#[⟨.cell a,false,false⟩]):=by
 have y:∀w:World,(isAgg 167).runT prog w #[]=(.ok false w,#[]):=by intro w; kernel_rfl
 have D:(Instr.loadAt 167 (.pointer (some a)) >>= λv=>(pure (.value v):Sem Go.Next))=(isAgg 167 >>= λb=>((if b=true then(do pure (.agg (<-loadCells a (<-sizeOf 167))))else load a) >>= λv=>(pure (.value v):Sem Go.Next))):=by
  unfold Instr.loadAt;show(loadVar _ a >>= _)=_;unfold loadVar;rw[bind_assoc]
 rw[D];show((isAgg _).bind _).runT _ _ _=_;rw[Sem.runT_bind',y];show(load a >>= λv=>(pure (.value v):Sem Go.Next)).runT _ _ _=_;have O:(load a >>= λv=>(pure (.value v):Sem Go.Next))=.load .plain a λv=>.pure (.value v):=rfl;rw[O];simp only[Sem.runT,h];rfl
theorem SA:BA prog 120 f120 6 167 (opsOf f120) (I3 f120):=
 ⟨by kernel_rfl,by kernel_rfl,by decide,⟨_,_,_,_,rfl⟩,PA⟩
theorem Tk:mM (λo=>Ke prog xL E3 false o.op) (I3 f120)=true:=by kernel_rfl
end
end Go.Proofs.YtocbogeoffeolaaGreatDoor
