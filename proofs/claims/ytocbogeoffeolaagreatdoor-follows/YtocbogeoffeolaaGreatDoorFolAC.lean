import Derived.Test.YtocbogeoffeolaaGreatDoorFolAB
set_option linter.unusedVariables false
set_option linter.unusedSimpArgs false
set_option maxHeartbeats 8000000
set_option maxRecDepth 1000000
open Nat renaming le_refl->aB
open Go renaming bodyPost_ret->aC,cell_later->aD,results->aE,Calls->aF
namespace Go.Proofs.YtocbogeoffeolaaGreatDoor
open Go.Proofs.Tryz
section
open Go.RowKit Go.Maps
def CI:Obj:=.cells #[.int .u64 0,.int .u64 0] 147
def Bi(x y z:ByteArray):Obj:=.cells #[.string x,.string y,.string z] 143
theorem Rd.alloc{w:World}{v:Value}{xs:List Value}(h:Rd w v xs)(o:Obj):Rd (w.alloc o) v xs:=h.below ((Below.refl _ _).alloc (aB _) _)
structure Ua(w W:World)(b o B n:Nat)(ts:List (List Wd))(r g h:Nat)(x y z x' y' z':ByteArray):Prop where
 base:Below w.heap.size w W
 ux:W.heap[r]?=some CI
 fst:W.heap[g]?=some (Bi x y z)
 snd:W.heap[h]?=some (Bi x' y' z')
 map:W.cell? ⟨b,o,none⟩=some (.map (some B))
 cnt:iU W B n (ji ts)
theorem TF{w D:World}{b o B n:Nat}{ts:List (List Wd)}(hB:w.cell? ⟨b,o,none⟩=some (.map (some B)))(hC:iU w B n (ji ts))(h:Below (w.alloc CI).heap.size (w.alloc CI) D)(x y z O U W:ByteArray) :
  Ua w ((D.alloc (Bi x y z)).alloc (Bi O U W)) b o B n ts w.heap.size D.heap.size (D.heap.size+1) x y z O U W:=by
 have hz:(w.alloc CI).heap.size=w.heap.size+1:=by simp
 have Y:=h.size;rw[hz]at h Y;have h1:Below w.heap.size w D:=((Below.refl _ _).alloc (aB _) _).trans (h.mono (by omega));have h2:Below w.heap.size w ((D.alloc (Bi x y z)).alloc (Bi O U W)):=(h1.alloc (by omega) _).alloc (by simp; omega) _;refine⟨h2,?_,?_,?_,aD h2 hB,hC.below h2⟩
 .rw[Below.heap_alloc _ _ _ (by simp; omega),Below.heap_alloc _ _ _ (by omega),h.block _ (by omega)];exact pQ _ _
 .rw[Below.heap_alloc _ _ _ (by simp)];exact pQ _ _
 .have e:D.heap.size+1=(D.alloc (Bi x y z)).heap.size:=by simp
  rw[e];exact pQ _ _
theorem MC(b o B n:Nat)(y:List (List Wd))(vl:Value)(x:Wd)(w:World)(hG:w.cell? ⟨0,0,none⟩=some (.int .u64 4))(hB:w.cell? ⟨b,o,none⟩=some (.map (some B)))(hC:iU w B n (ji y))(hl:Rd w vl (gQ []))(hx:x≠[]/\x.length<=24)(al:jE y<=16777216) :
  aF prog 95 #[.pointer (some ⟨b,o,none⟩),vl,.string ⟨x.toArray⟩] w λe w'=>e=.returned (.agg #[.int .u64 ((qI y x []).1:Int),.int .u64 ((qI y x []).2:Int)])/\Below w.heap.size w w':=by
 have D:=tq vl [] (w.alloc CI) (hl.alloc _) (by simp);have HL:Hid (Rd _ _ _):=hl;obtain⟨a,c,rfl,hc,hm,_⟩:=hl;have HR:nG ([]:List Wd):=⟨by simp,by simp⟩;have ad:nG [x]:=⟨by simp,by simpa using hx⟩;have aj:=qw y [x];have ak:=qw y [];have ae:(gQ []).length=0:=rfl;rw[ae]at D hc HL⊢;clear ae;go_enter func95,ntmps95;go_wp2_with fail;refine D.mono ?_;rintro e W1 ⟨rfl,af⟩;rw[show ol []=.agg #[.string ⟨#[]⟩,.string ⟨#[]⟩,.string ⟨#[]⟩]from rfl];have hS:=TF hB hC af ⟨#[]⟩ ⟨#[]⟩ ⟨#[]⟩ ⟨x.toArray⟩ ⟨#[]⟩ ⟨#[]⟩;clear D af;go_wp2_with fail;unfold Bi at hS;generalize (W1.alloc (.cells #[.string ⟨#[]⟩,.string ⟨#[]⟩,.string ⟨#[]⟩] 143)).alloc (.cells #[.string ⟨x.toArray⟩,.string ⟨#[]⟩,.string ⟨#[]⟩] 143)=h at *;generalize W1.heap.size=g at *;have am:=aD hS.base hG;have an:=hS.map;have U:=(hS.cnt.stay (w':=h.drew) rfl).look ad;have W:=(hS.cnt.stay (w':=h.drew.drew) rfl).look ad;have ag:=(hS.cnt.stay (w':=h.drew.drew) rfl).look HR;rw[show ol []=.agg #[.string ⟨#[]⟩,.string ⟨#[]⟩,.string ⟨#[]⟩]from rfl]at ag;rw[show ol [x]=.agg #[.string ⟨x.toArray⟩,.string ⟨#[]⟩,.string ⟨#[]⟩]from rfl]at U W;have f0:h.cell? ⟨g,0,none⟩=some (.string ⟨#[]⟩):=Ps hS.fst 0;have f1:h.cell? ⟨g,1,none⟩=some (.string ⟨#[]⟩):=Ps hS.fst 1;have f2:h.cell? ⟨g,2,none⟩=some (.string ⟨#[]⟩):=Ps hS.fst 2;have s0:h.cell? ⟨g+1,0,none⟩=some (.string ⟨x.toArray⟩):=Ps hS.snd 0;have s1:h.cell? ⟨g+1,1,none⟩=some (.string ⟨#[]⟩):=Ps hS.snd 1;have s2:h.cell? ⟨g+1,2,none⟩=some (.string ⟨#[]⟩):=Ps hS.snd 2;have r0:h.cell? ⟨w.heap.size,0,none⟩=some (.int .u64 0):=Ps hS.ux 0;have r1:h.cell? ⟨w.heap.size,1,none⟩=some (.int .u64 0):=Ps hS.ux 1;have z0:h.frozen? ⟨w.heap.size,0,none⟩=false:=Ue hS.ux 0;have z1:h.frozen? ⟨w.heap.size,1,none⟩=false:=Ue hS.ux 1;have ao:=hS;have HS:=hS.base;clear hS;obtain⟨p,Y⟩:∃p,p=ji y [x]:=⟨_,rfl⟩;obtain⟨q,aa⟩:∃q,q=ji y []:=⟨_,rfl⟩;rw[<-Y]at U W aj;rw[<-aa]at ag ak;have ah:Hid (p=ji y [x]):=Y;have ai:Hid (q=ji y []):=aa;clear Y aa;obtain⟨O,ab⟩:∃O:Int,O=(p:Int):=⟨_,rfl⟩;rw[<-ab]at U W;have ac:Hid (O=(p:Int)):=ab;have ap:0<=O:=by omega
 have aq:O<=16777216:=by omega
 have ar:IntKind.u64.wrap (O*4)=O*4:=by rw[IntKind.wrap_u64]; omega
 clear ab;by_cases hz:O=0
 .subst hz;go_region;go_wp2_with fail;go_region;go_wp2;refine aC (v:=.agg #[.int .u64 0,.int .u64 (q:Int)]) (by simp[aE,results95,go_sem,r0,r1]) rfl ⟨?_,?_⟩
  .have h1:=ac.out;have hp:ji y [x]=0:=by rw[<-ah.out]; omega
   unfold qI;rw[hp,ai.out];rfl
  .exact(HS.drew.drew.setCell (aB _) _).setCell (aB _) _
 .have au:(O==0)=false:=by simpa using hz
  go_region;go_wp2_with fail;go_region;go_wp2;refine aC (v:=.agg #[.int .u64 (O*4),.int .u64 (q:Int)]) (by simp[aE,results95,go_sem,r0,r1]) rfl ⟨?_,?_⟩
  .have h1:=ac.out;unfold qI;rw[ac.out,ah.out,ai.out];rfl
  .exact(HS.drew.drew.setCell (aB _) _).setCell (aB _) _
end
section
open Go.RowKit Go.Maps
theorem MD(b o B n:Nat)(h:List (List Wd))(vl:Value)(u:Wd)(x:Wd)(w:World)(ap:w.cell? ⟨0,0,none⟩=some (.int .u64 4))(hG:w.cell? ⟨0,1,none⟩=some (.int .u64 10))(hB:w.cell? ⟨b,o,none⟩=some (.map (some B)))(hC:iU w B n (ji h))(hl:Rd w vl (gQ [u]))(hu:u≠[]/\u.length<=24)(hx:x≠[]/\x.length<=24)(aq:jE h<=16777216) :
  aF prog 95 #[.pointer (some ⟨b,o,none⟩),vl,.string ⟨x.toArray⟩] w λe w'=>e=.returned (.agg #[.int .u64 ((qI h x [u]).1:Int),.int .u64 ((qI h x [u]).2:Int)])/\Below w.heap.size w w':=by
 have D:=tq vl [u] (w.alloc CI) (hl.alloc _) (by simp);have HL:Hid (Rd _ _ _):=hl;obtain⟨a,c,rfl,hc,hm,hr⟩:=hl;obtain⟨ba,oa,rfl,_⟩:=hr 0 _ rfl;clear hr;have HR:nG ([u]:List Wd):=⟨by simp,by simpa using hu⟩;have ak:nG [u,x]:=⟨by simp,by simp[hu,hx]⟩;have ar:=qw h [u,x];have au:=qw h [u];have al:(gQ [u]).length=1:=rfl;rw[al]at D hc HL⊢;clear al;have a3:(1:Int)<=(c:Int):=by omega
 have am:∀V,(V=.slice (some ⟨ba,oa,none⟩) 0 0\/V=.slice (some ⟨ba,oa+1,none⟩) 0 (c-1))->Rd w V (gQ []):=by
  rintro V (rfl|rfl)
  .exact Rd.Hb rfl (by unfold maxLen; omega)
  .exact Rd.Hb rfl (by omega)
 go_enter func95,ntmps95;go_wp2_with fail;refine D.mono ?_;rintro e W1 ⟨rfl,an⟩;rw[show ol [u]=.agg #[.string ⟨u.toArray⟩,.string ⟨#[]⟩,.string ⟨#[]⟩]from rfl];have hS:=TF hB hC an ⟨u.toArray⟩ ⟨#[]⟩ ⟨#[]⟩ ⟨u.toArray⟩ ⟨x.toArray⟩ ⟨#[]⟩;clear D an;go_wp2_with fail;unfold Bi at hS;generalize (W1.alloc (.cells #[.string ⟨u.toArray⟩,.string ⟨#[]⟩,.string ⟨#[]⟩] 143)).alloc (.cells #[.string ⟨u.toArray⟩,.string ⟨x.toArray⟩,.string ⟨#[]⟩] 143)=y at *;generalize W1.heap.size=g at *;have a4:=aD hS.base hG;have av:=hS.map;have ac:=(hS.cnt.stay (w':=y.drew) rfl).look ak;have ad:=(hS.cnt.stay (w':=y.drew.drew) rfl).look ak;have ao:=(hS.cnt.stay (w':=y.drew.drew) rfl).look HR;rw[show ol [u]=.agg #[.string ⟨u.toArray⟩,.string ⟨#[]⟩,.string ⟨#[]⟩]from rfl]at ao;rw[show ol [u,x]=.agg #[.string ⟨u.toArray⟩,.string ⟨x.toArray⟩,.string ⟨#[]⟩]from rfl]at ac ad;have f0:y.cell? ⟨g,0,none⟩=some (.string ⟨u.toArray⟩):=Ps hS.fst 0;have f1:y.cell? ⟨g,1,none⟩=some (.string ⟨#[]⟩):=Ps hS.fst 1;have f2:y.cell? ⟨g,2,none⟩=some (.string ⟨#[]⟩):=Ps hS.fst 2;have s0:y.cell? ⟨g+1,0,none⟩=some (.string ⟨u.toArray⟩):=Ps hS.snd 0;have s1:y.cell? ⟨g+1,1,none⟩=some (.string ⟨x.toArray⟩):=Ps hS.snd 1;have s2:y.cell? ⟨g+1,2,none⟩=some (.string ⟨#[]⟩):=Ps hS.snd 2;have r0:y.cell? ⟨w.heap.size,0,none⟩=some (.int .u64 0):=Ps hS.ux 0;have r1:y.cell? ⟨w.heap.size,1,none⟩=some (.int .u64 0):=Ps hS.ux 1;have z0:y.frozen? ⟨w.heap.size,0,none⟩=false:=Ue hS.ux 0;have z1:y.frozen? ⟨w.heap.size,1,none⟩=false:=Ue hS.ux 1;have ae:=hS;have HS:=hS.base;clear hS;obtain⟨p,af⟩:∃p,p=ji h [u,x]:=⟨_,rfl⟩;obtain⟨q,ag⟩:∃q,q=ji h [u]:=⟨_,rfl⟩;rw[<-af]at ac ad ar;rw[<-ag]at ao au;have ah:Hid (p=ji h [u,x]):=af;have aw:Hid (q=ji h [u]):=ag;clear af ag;obtain⟨Y,ai⟩:∃Y:Int,Y=(p:Int):=⟨_,rfl⟩;rw[<-ai]at ac ad;have aj:Hid (Y=(p:Int)):=ai;have a5:0<=Y:=by omega
 have a6:Y<=16777216:=by omega
 have a7:IntKind.u64.wrap (Y*10)=Y*10:=by rw[IntKind.wrap_u64]; omega
 clear ai;by_cases hz:Y=0
 .have ax:Hid (qI h x [u]=qI h x []):=by
   show qI h x [u]=_;have h1:=aj.out;have hp:ji h [u,x]=0:=by rw[<-ah.out]; omega
   simp[qI,hp]
  subst hz
  have O:∀V,Rd w V (gQ [])->aF prog 95 #[.pointer (some ⟨b,o,none⟩),V,.string ⟨x.toArray⟩] y.drew λe w4=>e=.returned (.agg #[.int .u64 ((qI h x [u]).1:Int),.int .u64 ((qI h x [u]).2:Int)])/\
    Below w.heap.size w w4/\w4.cell? ⟨w.heap.size,0,none⟩=some (.int .u64 0)/\w4.cell? ⟨w.heap.size,1,none⟩=some (.int .u64 0)/\w4.frozen? ⟨w.heap.size,0,none⟩=false/\w4.frozen? ⟨w.heap.size,1,none⟩=false:=by
   intro V hV;rw[ax.out];have aa:Below w.heap.size w y.drew:=HS.drew;refine(MC b o B n h _ x y.drew (aD aa ap) av (ae.cnt.stay rfl) (hV.below aa) hx aq).mono ?_;rintro e w4 ⟨rfl,ab⟩;have hr:w.heap.size<y.heap.size:=(Array.getElem?_eq_some_iff.1 ae.ux).1;have hh:w4.heap[w.heap.size]?=some CI:=by rw[ab.block w.heap.size hr]; exact ae.ux
   exact⟨rfl,aa.trans (ab.mono aa.size),Ps hh 0,Ps hh 1,Ue hh 0,Ue hh 1⟩
  obtain⟨p1,U⟩:∃p1,p1=(qI h x [u]).1:=⟨_,rfl⟩;obtain⟨p2,W⟩:∃p2,p2=(qI h x [u]).2:=⟨_,rfl⟩;rw[<-U,<-W]at O;have ay:Hid (p1=(qI h x [u]).1):=U;have az:Hid (p2=(qI h x [u]).2):=W;clear U W;go_region;go_wp2_with fail
  all_goals
   refine(O _ (am _ (by simp[*]))).mono ?_;rintro e w4 ⟨rfl,ab,a0,a1,a8,a9⟩;clear O am;go_wp2;refine aC (v:=.agg #[.int .u64 (p1:Int),.int .u64 (p2:Int)]) (by simp[aE,results95,go_sem,a0,a1]) rfl ⟨?_,?_⟩
   .rw[ay.out,az.out]
   .exact(ab.setCell (aB _) _).setCell (aB _) _
 .have a':(Y==0)=false:=by simpa using hz
  go_region;go_wp2_with fail;go_region;go_wp2;refine aC (v:=.agg #[.int .u64 (Y*10),.int .u64 (q:Int)]) (by simp[aE,results95,go_sem,r0,r1]) rfl ⟨?_,?_⟩
  .have h1:=aj.out;have hp:ji h [u,x]≠0:=by rw[<-ah.out]; omega
   have a2:qI h x [u]=(ji h [u,x]*10,ji h [u]):=by simp[qI,hp]
   rw[a2,aj.out,ah.out,aw.out];rfl
  .exact(HS.drew.drew.setCell (aB _) _).setCell (aB _) _
end
section
open Go.RowKit Go.Maps
theorem Sk(b o B n:Nat)(h:List (List Wd))(vl:Value)(u:Wd)(v:Wd)(x:Wd)(w:World)(ao:w.cell? ⟨0,0,none⟩=some (.int .u64 4))(ap:w.cell? ⟨0,1,none⟩=some (.int .u64 10))(hG:w.cell? ⟨0,2,none⟩=some (.int .u64 25))(hB:w.cell? ⟨b,o,none⟩=some (.map (some B)))(hC:iU w B n (ji h))(hl:Rd w vl (gQ [u,v]))(hu:u≠[]/\u.length<=24)(hv:v≠[]/\v.length<=24)(hx:x≠[]/\x.length<=24)(aq:jE h<=16777216) :
  aF prog 95 #[.pointer (some ⟨b,o,none⟩),vl,.string ⟨x.toArray⟩] w λe w'=>e=.returned (.agg #[.int .u64 ((qI h x [u,v]).1:Int),.int .u64 ((qI h x [u,v]).2:Int)])/\Below w.heap.size w w':=by
 have D:=tq vl [u,v] (w.alloc CI) (hl.alloc _) (by simp);have HL:Hid (Rd w vl (gQ [u,v])):=hl;obtain⟨a,c,rfl,hc,hm,hr⟩:=hl;obtain⟨ba,oa,rfl,_⟩:=hr 0 _ rfl;clear hr;have HR:nG ([u,v]:List Wd):=⟨by simp,by simp[hu,hv]⟩;have aj:nG [u,v,x]:=⟨by simp,by simp[hu,hv,hx]⟩;have ar:=qw h [u,v,x];have au:=qw h [u,v];have ak:(gQ [u,v]).length=2:=rfl;rw[ak]at D hc HL⊢;clear ak;have a4:(2:Int)<=(c:Int):=by omega
 have al:∀V,V=.slice (some ⟨ba,oa+1,none⟩) 1 (c-1)->Rd w V (gQ [v]):=by
  rintro V rfl;have:=HL.out.Gg 1 (by simp) (by omega) rfl;exact this
 have a3:c≠1:=by omega
 go_enter func95,ntmps95;go_wp2_with fail;refine D.mono ?_;rintro e W1 ⟨rfl,am⟩;rw[show ol [u,v]=.agg #[.string ⟨u.toArray⟩,.string ⟨v.toArray⟩,.string ⟨#[]⟩]from rfl];have hS:=TF hB hC am ⟨u.toArray⟩ ⟨v.toArray⟩ ⟨#[]⟩ ⟨u.toArray⟩ ⟨v.toArray⟩ ⟨x.toArray⟩;clear D am;go_wp2_with fail;unfold Bi at hS;generalize (W1.alloc (.cells #[.string ⟨u.toArray⟩,.string ⟨v.toArray⟩,.string ⟨#[]⟩] 143)).alloc (.cells #[.string ⟨u.toArray⟩,.string ⟨v.toArray⟩,.string ⟨x.toArray⟩] 143)=y at *;generalize W1.heap.size=g at *;have a5:=aD hS.base hG;have av:=hS.map;have ab:=(hS.cnt.stay (w':=y.drew) rfl).look aj;have ac:=(hS.cnt.stay (w':=y.drew.drew) rfl).look aj;have an:=(hS.cnt.stay (w':=y.drew.drew) rfl).look HR;rw[show ol [u,v]=.agg #[.string ⟨u.toArray⟩,.string ⟨v.toArray⟩,.string ⟨#[]⟩]from rfl]at an;rw[show ol [u,v,x]=.agg #[.string ⟨u.toArray⟩,.string ⟨v.toArray⟩,.string ⟨x.toArray⟩]from rfl]at ab ac;have f0:y.cell? ⟨g,0,none⟩=some (.string ⟨u.toArray⟩):=Ps hS.fst 0;have f1:y.cell? ⟨g,1,none⟩=some (.string ⟨v.toArray⟩):=Ps hS.fst 1;have f2:y.cell? ⟨g,2,none⟩=some (.string ⟨#[]⟩):=Ps hS.fst 2;have s0:y.cell? ⟨g+1,0,none⟩=some (.string ⟨u.toArray⟩):=Ps hS.snd 0;have s1:y.cell? ⟨g+1,1,none⟩=some (.string ⟨v.toArray⟩):=Ps hS.snd 1;have s2:y.cell? ⟨g+1,2,none⟩=some (.string ⟨x.toArray⟩):=Ps hS.snd 2;have r0:y.cell? ⟨w.heap.size,0,none⟩=some (.int .u64 0):=Ps hS.ux 0;have r1:y.cell? ⟨w.heap.size,1,none⟩=some (.int .u64 0):=Ps hS.ux 1;have z0:y.frozen? ⟨w.heap.size,0,none⟩=false:=Ue hS.ux 0;have z1:y.frozen? ⟨w.heap.size,1,none⟩=false:=Ue hS.ux 1;have ad:=hS;have HS:=hS.base;clear hS;obtain⟨p,ae⟩:∃p,p=ji h [u,v,x]:=⟨_,rfl⟩;obtain⟨q,af⟩:∃q,q=ji h [u,v]:=⟨_,rfl⟩;rw[<-ae]at ab ac ar;rw[<-af]at an au;have ag:Hid (p=ji h [u,v,x]):=ae;have aw:Hid (q=ji h [u,v]):=af;clear ae af;obtain⟨pi,ah⟩:∃pi:Int,pi=(p:Int):=⟨_,rfl⟩;rw[<-ah]at ab ac;have ai:Hid (pi=(p:Int)):=ah;have a6:0<=pi:=by omega
 have a7:pi<=16777216:=by omega
 have a8:IntKind.u64.wrap (pi*25)=pi*25:=by rw[IntKind.wrap_u64]; omega
 clear ah;by_cases hz:pi=0
 .have ax:Hid (qI h x [u,v]=qI h x [v]):=by
   show qI h x [u,v]=_;have h1:=ai.out;have hp:ji h [u,v,x]=0:=by rw[<-ag.out]; omega
   simp[qI,hp]
  subst hz
  have O:∀V,Rd w V (gQ [v])->aF prog 95 #[.pointer (some ⟨b,o,none⟩),V,.string ⟨x.toArray⟩] y.drew λe w4=>e=.returned (.agg #[.int .u64 ((qI h x [u,v]).1:Int),.int .u64 ((qI h x [u,v]).2:Int)])/\
    Below w.heap.size w w4/\w4.cell? ⟨w.heap.size,0,none⟩=some (.int .u64 0)/\w4.cell? ⟨w.heap.size,1,none⟩=some (.int .u64 0)/\w4.frozen? ⟨w.heap.size,0,none⟩=false/\w4.frozen? ⟨w.heap.size,1,none⟩=false:=by
   intro V hV;rw[ax.out];have U:Below w.heap.size w y.drew:=HS.drew;refine(MD b o B n h _ v x y.drew (aD U ao) (aD U ap) av (ad.cnt.stay rfl) (hV.below U) hv hx aq).mono ?_;rintro e w4 ⟨rfl,aa⟩;have hr:w.heap.size<y.heap.size:=(Array.getElem?_eq_some_iff.1 ad.ux).1;have hh:w4.heap[w.heap.size]?=some CI:=by rw[aa.block w.heap.size hr]; exact ad.ux
   exact⟨rfl,U.trans (aa.mono U.size),Ps hh 0,Ps hh 1,Ue hh 0,Ue hh 1⟩
  obtain⟨p1,W⟩:∃p1,p1=(qI h x [u,v]).1:=⟨_,rfl⟩;obtain⟨p2,Y⟩:∃p2,p2=(qI h x [u,v]).2:=⟨_,rfl⟩;rw[<-W,<-Y]at O;have ay:Hid (p1=(qI h x [u,v]).1):=W;have az:Hid (p2=(qI h x [u,v]).2):=Y;clear W Y;go_region;go_wp2_with fail
  all_goals
   refine(O _ (al _ (by simp[*]))).mono ?_;rintro e w4 ⟨rfl,aa,a0,a1,a9,a'⟩;clear O al;go_wp2;refine aC (v:=.agg #[.int .u64 (p1:Int),.int .u64 (p2:Int)]) (by simp[aE,results95,go_sem,a0,a1]) rfl ⟨?_,?_⟩
   .rw[ay.out,az.out]
   .exact(aa.setCell (aB _) _).setCell (aB _) _
 .have aA:(pi==0)=false:=by simpa using hz
  go_region;go_wp2_with fail;go_region;go_wp2;refine aC (v:=.agg #[.int .u64 (pi*25),.int .u64 (q:Int)]) (by simp[aE,results95,go_sem,r0,r1]) rfl ⟨?_,?_⟩
  .have h1:=ai.out;have hp:ji h [u,v,x]≠0:=by rw[<-ag.out]; omega
   have a2:qI h x [u,v]=(ji h [u,v,x]*25,ji h [u,v]):=by simp[qI,hp]
   rw[a2,ai.out,ag.out,aw.out];rfl
  .exact(HS.drew.drew.setCell (aB _) _).setCell (aB _) _
end
section
open Go.RowKit Go.Maps Go.Sort
theorem Ha(b o B n:Nat)(D:List (List Wd))(vl:Value)(W:List Wd)(x:Wd)(w:World)(Y:Jd w)(hB:w.cell? ⟨b,o,none⟩=some (.map (some B)))(hC:iU w B n (ji D))(hl:Rd w vl (gQ W))(ha:W.length<=2)(O:∀y∈W,y≠[]/\y.length<=24)(hx:x≠[]/\x.length<=24)(U:jE D<=16777216) :
  aF prog 95 #[.pointer (some ⟨b,o,none⟩),vl,.string ⟨x.toArray⟩] w λe w'=>e=.returned (.agg #[.int .u64 ((qI D x W).1:Int),.int .u64 ((qI D x W).2:Int)])/\Below w.heap.size w w':=by
 match W,ha with
 |[],_=>exact MC b o B n D vl x w Y.1 hB hC hl hx U
 |[u],_=>exact MD b o B n D vl u x w Y.1 Y.2.1 hB hC hl (O u (by simp)) hx U
 |[u,v],_=>exact Sk b o B n D vl u v x w Y.1 Y.2.1 Y.2.2 hB hC hl (O u (by simp)) (O v (by simp)) hx U
 |_::_::_::_,h=>simp at h
def m6(sc:Wd->Fr)(ws:List Wd):List Value:=ws.flatMap (mN sc)
theorem Bh(sc:Wd->Fr)(ws:List Wd)(x:Wd):m6 sc (ws++[x])=m6 sc ws++mN sc x:=by simp[m6]
theorem D1(sc:Wd->Fr):∀(ws:List Wd)(i c:Nat)(h:i<ws.length),c<3->(m6 sc ws)[i*3+c]?=(mN sc ws[i])[c]?:=by
 intro ws
 induction ws with
 |nil=>intro i c h; simp at h
 |cons a l y=>
  intro i c h B;have e:m6 sc (a::l)=mN sc a++m6 sc l:=by simp[m6]
  rw[e]
  cases i with
  |zero=>rw[List.getElem?_append_left (by simp[mN]; omega)]; simp
  |succ i=>
   rw[List.getElem?_append_right (by simp[mN]; omega)];have D:(mN sc a).length=3:=rfl;rw[D,show(i+1)*3+c-3=i*3+c by omega,y i c (by simpa using h) B];simp
theorem Kz(sc:Wd->Fr)(x:Wd):∀v∈mN sc x,v.oneCell'=true:=by
 intro v h;simp[mN]at h;rcases h with rfl|rfl|rfl<;>rfl
theorem Af{w:World}{base e n m cap g:Nat}(sc:Wd->Fr){ws:List Wd}(h:w.ownsRow base e 3 (.slice (some ⟨g,0,none⟩) m cap) n (m6 sc ws))(hn:n=ws.length):HoldsK (mN sc) 3 w g 0 ws.toArray:=by
 subst hn;intro j O;rw[size_flatK]at O;have B:j<ws.length*3:=by simpa using O
 have U:j / 3<ws.length:=by omega
 have y:(m6 sc ws)[j]?=some ((flatK (mN sc) 3 ws.toArray)[j]!):=by
  rw[get_flatK _ _ _ _ (by simpa using B)];have:=D1 sc ws (j / 3) (j % 3) U (by omega);rw[show j / 3*3+j % 3=j by omega]at this;rw[this];have e1:ws.toArray[j / 3]! = ws[j / 3]:=by rw[getElem!_pos _ _ (by simpa using U)]; simp
  rw[e1];have W:j % 3<(mN sc ws[j / 3]).length:=by simp[mN]; omega
  rw[List.getElem?_eq_getElem W,getElem!_pos (mN sc ws[j / 3]) (j % 3) W]
 rcases h.2 with⟨h0,_⟩|⟨g',Y,aa,he,_,hg,_,_,ab,D⟩
 .simp at h0
 .simp only[Value.slice.injEq,Option.some.injEq,Addr.mk.injEq]at he;obtain⟨⟨rfl,_⟩,_,rfl⟩:=he;refine⟨?_,?_⟩
  .rw[Ps hg];rw[<-D,List.getElem?_take,if_pos (by omega)]at y;rw[Nat.zero_add];simpa using y
  .simp[World.frozen?,hg]
theorem Gv{w0 w:World}{k blk off m:Nat}{enc:Wd->List Value}{d:Array Wd}{os:Array Obj}(h:Below w0.heap.size w0 w)(hb:w0.heap.size<=blk):Below w0.heap.size w0 (sortWorldK enc k w blk off m d os):=by
 have B:=h.size;refine⟨h.os,h.tape,h.output,?_,λj y=>?_⟩
 .unfold sortWorldK putRowK putRow grow mapBlock;simp;omega
 .rw[<-h.block j y];unfold sortWorldK putRowK putRow grow mapBlock;simp;rw[Array.getElem?_append_left (by simp; omega),Array.getElem?_modify,if_neg (by omega)]
end
end Go.Proofs.YtocbogeoffeolaaGreatDoor
