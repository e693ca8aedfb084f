import Derived.Test.YtocbogeoffeolaaGreatDoorFolAK
set_option linter.unusedVariables false
set_option linter.unusedSimpArgs false
set_option maxHeartbeats 8000000
set_option maxRecDepth 1000000
open List renaming length_map->bb,mem_singleton->bz,getElem_mem->b0,mem_nil_iff->b1,getD_eq_getElem?_getD->b2,mem_cons->b3,getElem?_eq_getElem->b4,map_append->b5
open Go renaming wpAnyH_all->b6,wpOp_step->b7,cell_later->b8,wpAnyH_done->b9,wp_region_held->bA,Calls->bB,maxLen->bC
open Nat renaming lt_of_lt_of_le->bD,le_trans->bE,zero_add->bF
open Go.Oper renaming wp->bG
open Go.RowKit renaming Hid->bH
open Go.World renaming setCell->bI
namespace Go.Proofs.YtocbogeoffeolaaGreatDoor
open Go.Proofs.Tryz
section
open Go.RowKit Go.Maps
def lq(ss:List (List gS))(m:Nat)(l:List gS):List (List gS):=ss.take m++((if 0<l.length then [l]else [])++ss.drop (m+2))
theorem kU(ss:List (List gS))(m:Nat)(l:List gS):(lq ss m l).map ix=(ss.map ix).take m++(jd l++(ss.map ix).drop (m+2)):=by
 unfold lq jd;rw[b5,b5,List.map_take,List.map_drop];split<;>simp
theorem RP{vM vK:Value}(w:World)(F:Nat->Prop)(b:Nat)(buf:List gS)(ss:List (List gS))(n:Int)(hP:we vM vK w F b buf ss) :
  bB prog 39 #[.pointer (some ⟨b,0,none⟩),.int .i64 n] w λe w'=>e=.returned (.int .i64 (jS ss n).1)/\
   ∃F':Nat->Prop,we vM vK w' F' b buf (jS ss n).2/\(∀k,F' k->F k\/w.heap.size<=k)/\gV F w w':=by
 have HP:bH (we _ _ _ _ _ _ _):=hP;obtain⟨hF,Bb,vS,hE⟩:=hP;obtain⟨aS,cS,rfl,bo⟩:=ib hE.row;have HF:bH (∀k,F k->k<w.heap.size):=hF;have aG:w.cell? ⟨b,1,none⟩=some (.slice aS ss.length cS):=by rw[Ps hE.blk]; rfl
 have h6:=hE.inv.yE;have aB:=hF b hE.fb;have HE:bH (FA _ _ _ _ _ _ _ _ _):=hE;clear hF hE;by_cases h0:n<0
 .have HU:bH (jS ss n=(6,ss)):=by show jS _ _=_; unfold jS; rw[if_pos (Or.inl h0)]
  go_enter func39,ntmps39;go_wp2;go_ret;refine⟨iJ (by rw[HU.out]; rfl),F,?_,λk hk=>Or.inl hk,gV.refl _ _⟩;rw[HU.out];exact HP.out
 .have bp:IntKind.i64.wrap ((ss.length:Int)-1)=(ss.length:Int)-1:=by simp only[IntKind.wrap_i64]; omega
  by_cases h1:(ss.length:Int)-1<=n
  .have HU:bH (jS ss n=(6,ss)):=by show jS _ _=_; unfold jS; rw[if_pos (Or.inr h1)]
   go_enter func39,ntmps39;go_wp2;go_ret;refine⟨iJ (by rw[HU.out]; rfl),F,?_,λk hk=>Or.inl hk,gV.refl _ _⟩;rw[HU.out];exact HP.out
  .obtain⟨m,rfl⟩:∃m:Nat,n=(m:Int):=⟨n.toNat,by omega⟩;have hm:m+1<ss.length:=by omega
   have aC:m<ss.length:=by omega
   obtain⟨g,rfl⟩:∃g,aS=some ⟨g,0,none⟩:=by
    rcases HE.out.row.2 with⟨he,_⟩|⟨g,cap,bq,he,_⟩
    .simp only[Value.slice.injEq]at he; omega
    .simp only[Value.slice.injEq]at he;exact⟨g,he.1⟩
   have aT:bH (mK ss m=if m=0 then gR (ia ss[m] ss[m+1])else ia ss[m] ss[m+1]):=by
    show mK _ _=_;unfold mK;rw[b2,b2,b4 aC,b4 hm];rfl
   have HU:bH (jS ss (m:Int)=if 100<kV (mK ss m)then(4,ss)else(0,ss.take m++((if 0<(mK ss m).length then [mK ss m]else [])++ss.drop (m+2)))):=by
    show jS _ _=_;unfold jS;rw[if_neg (by omega),Int.toNat_natCast,np];rfl
   have bg:w.cell? ⟨g,m,none⟩=some (.string ⟨(ix ss[m]).toArray⟩):=by
    obtain⟨b',off,e,hc⟩:=lV HE.out.row m (.string ⟨(ix ss[m]).toArray⟩) (by simp[gQ,aC]);cases e;rw[bF]at hc;exact hc
   have bh:w.cell? ⟨g,m+1,none⟩=some (.string ⟨(ix ss[m+1]).toArray⟩):=by
    obtain⟨b',off,e,hc⟩:=lV HE.out.row (m+1) (.string ⟨(ix ss[m+1]).toArray⟩) (by simp[gQ,hm]);cases e;rw[bF]at hc;exact hc
   have aU:bH (∀l∈[ss[m],ss[m+1]],∀e∈l,e.name.length<=bC):=by
    intro l hl e he;simp only[b3,b1,or_false]at hl;rcases hl with rfl|rfl
    .exact sZ (HE.out.inv.nv _ (b0 aC)) e he
    .exact sZ (HE.out.inv.nv _ (b0 hm)) e he
   have aH:bH (jW [ss[m],ss[m+1]]=ia ss[m] ss[m+1]):=by
    show _=_;unfold jW;simp only[List.foldl_cons,List.foldl_nil];rw[vY]
   have bi:bH (∀e∈ia ss[m] ss[m+1],e.name.length<=bC):=by
    rw[<-aH.out];exact xo aU.out
   have aI:bH ((ia ss[m] ss[m+1]).length<=1000):=by
    have h1:=rp (HE.out.inv.nv _ (b0 aC));have h2:=rp (HE.out.inv.nv _ (b0 hm));have h3:=xi [ss[m],ss[m+1]] 2 (by simp);simp only[List.take]at h3;rw[aH.out]at h3;have h4:li [ss[m],ss[m+1]]<=1000:=by simp[li]; omega
    show _<=_;omega
   have br:(0:Int)<=(m:Int):=by omega
   have bs:(m:Int)<(ss.length:Int):=by omega
   have bt:(m:Int)+1<(ss.length:Int):=by omega
   have bu:IntKind.i64.wrap ((m:Int)+1)=(m:Int)+1:=by simp only[IntKind.wrap_i64]; omega
   have bv:IntKind.i64.wrap ((m:Int)+2)=(m:Int)+2:=by simp only[IntKind.wrap_i64]; omega
   have bw:((m:Int)+1).toNat=m+1:=by omega
   have bx:(0:Int)<=(m:Int)+1:=by omega
   clear h0;go_enter func39,ntmps39;go_wp2_with fail;have hS:(λw':World=>w'.cell? ⟨b,1,none⟩=some (.slice (some ⟨g,0,none⟩) ss.length cS)/\w'.cell? ⟨g,m,none⟩=some (.string ⟨(ix ss[m]).toArray⟩)/\w'.cell? ⟨g,m+1,none⟩=some (.string ⟨(ix ss[m+1]).toArray⟩)) w.drew:=⟨aG,bg,bh⟩;refine bA (S:=λw'=>w'.cell? ⟨b,1,none⟩=some (.slice (some ⟨g,0,none⟩) ss.length cS)/\w'.cell? ⟨g,m,none⟩=some (.string ⟨(ix ss[m]).toArray⟩)/\w'.cell? ⟨g,m+1,none⟩=some (.string ⟨(ix ss[m+1]).toArray⟩)) (by kernel_rfl) ?_;refine iV 0 ?_ hS ?_<|iV 1 ?_ hS ?_<|iV 2 ?_ hS ?_<|iV 3 ?_ hS ?_<|iV 4 ?_ hS ?_<|iV 5 ?_ hS ?_<|iV 6 ?_ hS ?_<|iV 8 ?_ hS ?_<|iV 9 ?_ hS ?_<|iV 10 ?_ hS ?_<|iV 11 ?_ hS ?_<|iV 12 ?_ hS ?_<|iV 13 ?_ hS ?_<|iV 14 ?_ hS ?_<|iV 15 ?_ hS ?_ ?_
   any_goals(rintro w' ⟨s0,s1,s2⟩; go_simp; first|done|with_reducible rfl)
   refine b6 (rs:=[7]) (by kernel_rfl) (by simp) ?_;intro i hi;simp only[bz]at hi;subst hi;refine b7 (by rfl) λK' y=>?_;rw[if_pos (by rfl)];unfold bG;go_simp;refine(qF ss[m] w.drew (HE.out.inv.nv _ (b0 _))).mono ?_;rintro e w1 ⟨C,rfl,hC,aV,aq⟩;have aJ:Below w.heap.size w w1:=⟨aq.os,aq.tape,aq.output,aq.size,aq.block⟩;have aW:=aJ.size;have a4:(λw':World=>w'.cell? ⟨b,1,none⟩=some (.slice (some ⟨g,0,none⟩) ss.length cS)/\w'.cell? ⟨g,m,none⟩=some (.string ⟨(ix ss[m]).toArray⟩)/\w'.cell? ⟨g,m+1,none⟩=some (.string ⟨(ix ss[m+1]).toArray⟩)) w1:=⟨b8 aq hS.1,b8 aq hS.2.1,b8 aq hS.2.2⟩;refine y _ _ ⟨a4,?_⟩;clear y aq;refine b6 (rs:=[16]) (by kernel_rfl) (by simp) ?_;intro i hi;simp only[bz]at hi;subst hi;refine b7 (by rfl) λK' y=>?_;rw[if_pos (by rfl)];unfold bG;go_simp;refine(qF ss[m+1] w1 (HE.out.inv.nv _ (b0 _))).mono ?_;rintro e w2 ⟨D,rfl,hD,aX,aw⟩;have bj:=aw.size;have aY:Below w.heap.size w w2:=aJ.trans (aw.mono aW);have a5:(λw':World=>w'.cell? ⟨b,1,none⟩=some (.slice (some ⟨g,0,none⟩) ss.length cS)/\w'.cell? ⟨g,m,none⟩=some (.string ⟨(ix ss[m]).toArray⟩)/\w'.cell? ⟨g,m+1,none⟩=some (.string ⟨(ix ss[m+1]).toArray⟩)) w2:=⟨b8 aw a4.1,b8 aw a4.2.1,b8 aw a4.2.2⟩;have aE:je w2 C ss[m]:=ir.below aV aw;refine y _ _ ⟨a5,?_⟩;clear y aw aV;refine b6 (rs:=[17]) (by kernel_rfl) (by simp) ?_;intro i hi;simp only[bz]at hi;subst hi;refine b7 (by rfl) λK' y=>?_;rw[if_pos (by rfl)];unfold bG;go_simp;have aK:=To (t:=85) rfl aE aX;obtain⟨w3,aL⟩:∃w3,w3=w2.alloc (.cells #[.map (some C),.map (some D)] 85):=⟨_,rfl⟩;rw[<-aL]at aK⊢;have a1:Below w2.heap.size w2 w3:=by rw[aL]; exact(Below.refl _ _).alloc (Nat.le_refl _) _
   have aj:=a1.size;have aZ:Below w.heap.size w w3:=aY.trans (a1.mono (by omega));have a6:(λw':World=>w'.cell? ⟨b,1,none⟩=some (.slice (some ⟨g,0,none⟩) ss.length cS)/\w'.cell? ⟨g,m,none⟩=some (.string ⟨(ix ss[m]).toArray⟩)/\w'.cell? ⟨g,m+1,none⟩=some (.string ⟨(ix ss[m+1]).toArray⟩)) w3:=⟨b8 a1 a5.1,b8 a1 a5.2.1,b8 a1 a5.2.2⟩;refine y _ _ ⟨a6,?_⟩;clear y a1 aL;refine b6 (rs:=[18]) (by kernel_rfl) (by simp) ?_;intro i hi;simp only[bz]at hi;subst hi;refine b7 (by rfl) λK' y=>?_;rw[if_pos (by rfl)];unfold bG;go_simp
   refine(Ah _ [C,D] [ss[m],ss[m+1]] w3 aK (by
     have h1:=rp (HE.out.inv.nv _ (b0 (show m<ss.length by omega)));have h2:=rp (HE.out.inv.nv _ (b0 (show m+1<ss.length by omega)));simp[li]
     omega) aU.out).mono ?_
   rintro e w4 ⟨M,rfl,hM,aM,a3⟩;have bk:=a3.size;have aN:Below w.heap.size w w4:=aZ.trans (a3.mono (by omega));have aO:(λw':World=>w'.cell? ⟨b,1,none⟩=some (.slice (some ⟨g,0,none⟩) ss.length cS)/\w'.cell? ⟨g,m,none⟩=some (.string ⟨(ix ss[m]).toArray⟩)/\w'.cell? ⟨g,m+1,none⟩=some (.string ⟨(ix ss[m+1]).toArray⟩)) w4:=⟨b8 a3 a6.1,b8 a3 a6.2.1,b8 a3 a6.2.2⟩;refine y _ _ ⟨aO,?_⟩;clear y a3;refine iV 19 ?_ aO ?_ ?_;rotate_left
   .rintro w' ⟨s0,s1,s2⟩; go_simp; first|done|with_reducible rfl
   refine b9 (by kernel_rfl) ?_ _;rw[aH.out]at aM;have ba:bH (je _ _ _):=aM;have bc:bH (Below _ _ _):=aN;have bl:w.heap.size<=w4.heap.size:=aN.size;clear hS a4 a5 a6 aO aK aM aE aX aJ aY aZ aN hC hD aW bj aj bk;by_cases aD:m=0
   .have a7:bH (mK ss m=gR (ia ss[m] ss[m+1])):=by show mK _ _=_; rw[aT.out,if_pos aD]
    have aF:((m:Int)==0)=true:=beq_iff_eq.2 (by omega);have bd:=sW M _ w4 ba.out (by have:=aI.out; omega) bi.out;clear aD;go_wp2_with fail;refine bd.mono ?_;rintro e w5 ⟨N,rfl,hN,be,bf⟩;have a8:bH (je _ _ _):=be;have a9:bH ((gR (ia ss[m] ss[m+1])).length<=1000):=bE (pG _) aI.out;have a':bH (Below w.heap.size w w5):=bc.out.trans (bf.mono bl);clear bd be bf aF;have aA:=xf N (gR (ia ss[m] ss[m+1])) w5 a8.out (by have:=a9.out; omega);go_wp2_with fail;refine aA.mono ?_;rintro e w6 ⟨rfl,ar⟩;have bm:=ar.size;have aa:bH (Below w.heap.size w w6):=a'.out.trans (ar.mono a'.out.size);have aP:bH (je w6 N (gR (ia ss[m] ss[m+1]))):=ir.below a8.out ar;have aQ:kV (gR (ia ss[m] ss[m+1]))<=1000:=bE (Az _) a9.out;clear aA ar;by_cases ai:100<kV (gR (ia ss[m] ss[m+1]))
    .have ab:bH (jS ss (m:Int)=(4,ss)):=by show jS _ _=_; rw[HU.out,a7.out,if_pos ai]
     have ak:(100:Int)<(kV (gR (ia ss[m] ss[m+1])):Int):=by omega
     clear ai;go_wp2;go_ret;refine⟨iJ (by rw[ab.out]; rfl),F,?_,λk hk=>Or.inl hk,gV.jk aa.out⟩;rw[ab.out];exact we.below HP.out aa.out
    .have ab:bH (jS ss (m:Int)=(0,lq ss m (gR (ia ss[m] ss[m+1])))):=by show jS _ _=_; rw[HU.out,a7.out,if_neg ai]; rfl
     have ak:¬(100:Int)<(kV (gR (ia ss[m] ss[m+1])):Int):=by omega
     have al:bH (Inv buf (lq ss m (gR (ia ss[m] ss[m+1])))):=by have:=C0 HE.out.inv (m:Int); rw[ab.out]at this; exact this
     have au:bH (Below w.heap.size w w6.drew):=⟨aa.out.os,aa.out.tape,aa.out.output,aa.out.size,aa.out.block⟩;have bn:w6.cell? ⟨b,1,none⟩=some (.slice (some ⟨g,0,none⟩) ss.length cS):=b8 aa.out aG
     have av:=yG N (gR (ia ss[m] ss[m+1])) w6.drew aP.out (λhp=>al.out.nv _ (by
      unfold lq;rw[if_pos hp]
      simp))
     clear ai;go_wp2_with fail;clear ak aQ;refine bA (S:=λw'=>True) (by kernel_rfl) ?_;refine iV 0 ?_ trivial ?_<|iV 1 ?_ trivial ?_<|iV 2 ?_ trivial ?_<|iV 3 ?_ trivial ?_<|iV 5 ?_ trivial ?_<|iV 6 ?_ trivial ?_<|iV 7 ?_ trivial ?_<|iV 8 ?_ trivial ?_ ?_
     any_goals(rintro w' _; go_simp; first|done|with_reducible rfl)
     refine b6 (rs:=[4,9]) (by kernel_rfl) (by simp) ?_;intro i hi;simp only[b3,b1,or_false]at hi;rcases hi with rfl|rfl
     .refine b7 (by rfl) λK' y=>?_;rw[if_pos (by rfl)];unfold bG;go_simp;refine y _ _ ⟨trivial,?_⟩;clear y;refine b6 (rs:=[9]) (by kernel_rfl) (by simp) ?_;intro i hi;simp only[bz]at hi;subst hi;refine b7 (by rfl) λK' y=>?_;rw[if_pos (by rfl)];unfold bG;go_simp;refine av.mono ?_;rintro e x1 ⟨v1,rfl,am,an⟩;have W:Below w.heap.size w x1:=au.out.trans (an.mono au.out.size);have O:x1.heap[b]?=some (.cells #[.map (some Bb),.slice (some ⟨g,0,none⟩) ss.length cS,vM,vK] 90 (0,0)):=by rw[W.block b aB]; exact HE.out.blk
      have ax:x1.cell? ⟨b,1,none⟩=some (.slice (some ⟨g,0,none⟩) ss.length cS):=by rw[Ps O]; rfl
      refine y _ _ ⟨trivial,?_⟩;clear y av an
      have ac:x1.ownsRow 0 9 1 (.slice (some ⟨g,0,none⟩) (ss.map ix).length cS) (ss.map ix).length (gQ (ss.map ix)):=by
       rw[bb];exact iB HE.out.row (λk hk=>W.block k (HF.out k (HE.out.mo k hk)))
      have ad:=qv x1 g m cS (ss.map ix) v1 (jd (gR (ia ss[m] ss[m+1]))) ac am (kO _) (by rw[bb]; omega) (by rw[bb]; omega);rw[bb]at ad;refine b6 (rs:=[10]) (by kernel_rfl) (by simp) ?_;intro i hi;simp only[bz]at hi;subst hi;refine b7 (by rfl) λK' y=>?_;rw[if_pos (by rfl)];unfold bG;go_simp;refine ad.mono ?_;rintro e x2 ⟨v2,rfl,Y,ae,ao⟩;obtain⟨ln,af⟩:∃ln,ln=((ss.map ix).take m++(jd (gR (ia ss[m] ss[m+1]))++(ss.map ix).drop (m+2))).length:=⟨_,rfl⟩;rw[<-af]at Y;have ay:bH (ln=((ss.map ix).take m++(jd (gR (ia ss[m] ss[m+1]))++(ss.map ix).drop (m+2))).length):=af;clear af;obtain⟨a2,c2,rfl,aR⟩:=ib Y;have ag:x2.heap[b]?=some (.cells #[.map (some Bb),.slice (some ⟨g,0,none⟩) ss.length cS,vM,vK] 90 (0,0)):=by rw[ae.block b (iN O) (λe=>nu O ac (by decide) (by rw[e]; rfl))]; exact O
      refine y _ _ ⟨trivial,?_⟩;clear y ad
      have U:x2.ownsRow 0 9 1 (.slice a2 ln c2) (lq ss m (gR (ia ss[m] ss[m+1]))).length (gQ ((lq ss m (gR (ia ss[m] ss[m+1]))).map ix)):=by
       rw[kU,<-bb (f:=ix),kU,<-ay.out];exact Y
      have B:=HE.out.nv HF.out W (ae.mono (λk hk=>by subst hk; rfl)) U (λk hk=>by
       rcases ao k hk with h|h
       .subst h; exact Or.inl rfl
       .exact Or.inr h)
      refine iV 11 ?_ trivial ?_<|iV 12 ?_ trivial ?_ ?_
      any_goals(rintro w' _; go_simp; first|done|with_reducible rfl)
      have az:x2.cell? ⟨b,1,none⟩=some (.slice (some ⟨g,0,none⟩) ss.length cS):=by rw[Ps ag]; rfl
      have a0:x2.frozen? ⟨b,1,none⟩=false:=Ue ag 1;clear Y ae ao U ag ac am O W ax;refine b6 (rs:=[13]) (by kernel_rfl) (by simp) ?_;intro i hi;simp only[bz]at hi;subst hi;refine b7 (by rfl) λK' y=>?_;rw[if_pos (by rfl)];unfold bG;go_simp;refine y _ _ ⟨trivial,b9 (by kernel_rfl) ?_ _⟩;clear y az a0;obtain⟨x3,ah⟩:∃x3,x3=x2.setCell ⟨b,1,none⟩ (.slice a2 ln c2):=⟨_,rfl⟩;have aj:x3.heap.size=x2.heap.size:=by rw[ah]; simp[bI]
      rw[<-ah]at B⊢;rw[<-aj]at B;have ap:bH (∃F':Nat->Prop,we vM vK x3 F' b buf (lq ss m (gR (ia ss[m] ss[m+1])))/\(∀k,F' k->F k\/w.heap.size<=k)/\gV F w x3):=tH HE.out HF.out B al.out;clear ah aj B;go_wp2;go_ret;refine⟨iJ (by rw[ab.out]; rfl),?_⟩;rw[ab.out];exact ap.out
     .refine b7 (by rfl) λK' y=>?_;rw[if_pos (by rfl)];unfold bG;go_simp;refine av.mono ?_;rintro e x1 ⟨v1,rfl,am,an⟩;have W:Below w.heap.size w x1:=au.out.trans (an.mono au.out.size);have O:x1.heap[b]?=some (.cells #[.map (some Bb),.slice (some ⟨g,0,none⟩) ss.length cS,vM,vK] 90 (0,0)):=by rw[W.block b aB]; exact HE.out.blk
      have ax:x1.cell? ⟨b,1,none⟩=some (.slice (some ⟨g,0,none⟩) ss.length cS):=by rw[Ps O]; rfl
      refine y _ _ ⟨trivial,?_⟩;clear y av an;refine b6 (rs:=[4]) (by kernel_rfl) (by simp) ?_;intro i hi;simp only[bz]at hi;subst hi;refine b7 (by rfl) λK' y=>?_;rw[if_pos (by rfl)];unfold bG;go_simp;refine y _ _ ⟨trivial,?_⟩;clear y
      have ac:x1.ownsRow 0 9 1 (.slice (some ⟨g,0,none⟩) (ss.map ix).length cS) (ss.map ix).length (gQ (ss.map ix)):=by
       rw[bb];exact iB HE.out.row (λk hk=>W.block k (HF.out k (HE.out.mo k hk)))
      have ad:=qv x1 g m cS (ss.map ix) v1 (jd (gR (ia ss[m] ss[m+1]))) ac am (kO _) (by rw[bb]; omega) (by rw[bb]; omega);rw[bb]at ad;refine b6 (rs:=[10]) (by kernel_rfl) (by simp) ?_;intro i hi;simp only[bz]at hi;subst hi;refine b7 (by rfl) λK' y=>?_;rw[if_pos (by rfl)];unfold bG;go_simp;refine ad.mono ?_;rintro e x2 ⟨v2,rfl,Y,ae,ao⟩;obtain⟨ln,af⟩:∃ln,ln=((ss.map ix).take m++(jd (gR (ia ss[m] ss[m+1]))++(ss.map ix).drop (m+2))).length:=⟨_,rfl⟩;rw[<-af]at Y;have ay:bH (ln=((ss.map ix).take m++(jd (gR (ia ss[m] ss[m+1]))++(ss.map ix).drop (m+2))).length):=af;clear af;obtain⟨a2,c2,rfl,aR⟩:=ib Y;have ag:x2.heap[b]?=some (.cells #[.map (some Bb),.slice (some ⟨g,0,none⟩) ss.length cS,vM,vK] 90 (0,0)):=by rw[ae.block b (iN O) (λe=>nu O ac (by decide) (by rw[e]; rfl))]; exact O
      refine y _ _ ⟨trivial,?_⟩;clear y ad
      have U:x2.ownsRow 0 9 1 (.slice a2 ln c2) (lq ss m (gR (ia ss[m] ss[m+1]))).length (gQ ((lq ss m (gR (ia ss[m] ss[m+1]))).map ix)):=by
       rw[kU,<-bb (f:=ix),kU,<-ay.out];exact Y
      have B:=HE.out.nv HF.out W (ae.mono (λk hk=>by subst hk; rfl)) U (λk hk=>by
       rcases ao k hk with h|h
       .subst h; exact Or.inl rfl
       .exact Or.inr h)
      refine iV 11 ?_ trivial ?_<|iV 12 ?_ trivial ?_ ?_
      any_goals(rintro w' _; go_simp; first|done|with_reducible rfl)
      have az:x2.cell? ⟨b,1,none⟩=some (.slice (some ⟨g,0,none⟩) ss.length cS):=by rw[Ps ag]; rfl
      have a0:x2.frozen? ⟨b,1,none⟩=false:=Ue ag 1;clear Y ae ao U ag ac am O W ax;refine b6 (rs:=[13]) (by kernel_rfl) (by simp) ?_;intro i hi;simp only[bz]at hi;subst hi;refine b7 (by rfl) λK' y=>?_;rw[if_pos (by rfl)];unfold bG;go_simp;refine y _ _ ⟨trivial,b9 (by kernel_rfl) ?_ _⟩;clear y az a0;obtain⟨x3,ah⟩:∃x3,x3=x2.setCell ⟨b,1,none⟩ (.slice a2 ln c2):=⟨_,rfl⟩;have aj:x3.heap.size=x2.heap.size:=by rw[ah]; simp[bI]
      rw[<-ah]at B⊢;rw[<-aj]at B;have ap:bH (∃F':Nat->Prop,we vM vK x3 F' b buf (lq ss m (gR (ia ss[m] ss[m+1])))/\(∀k,F' k->F k\/w.heap.size<=k)/\gV F w x3):=tH HE.out HF.out B al.out;clear ah aj B;go_wp2;go_ret;refine⟨iJ (by rw[ab.out]; rfl),?_⟩;rw[ab.out];exact ap.out
   .have a7:bH (mK ss m=ia ss[m] ss[m+1]):=by show mK _ _=_; rw[aT.out,if_neg aD]
    have aF:((m:Int)==0)=false:=beq_eq_false_iff_ne.2 (by omega);have a8:bH (je w4 M (ia ss[m] ss[m+1])):=ba.out;have a9:bH ((ia ss[m] ss[m+1]).length<=1000):=aI.out;have a':bH (Below w.heap.size w w4):=bc.out;clear aD;have aA:=xf M (ia ss[m] ss[m+1]) w4 a8.out (by have:=a9.out; omega);go_wp2_with fail;refine aA.mono ?_;rintro e w6 ⟨rfl,ar⟩;have bm:=ar.size;have aa:bH (Below w.heap.size w w6):=a'.out.trans (ar.mono a'.out.size);have aP:bH (je w6 M (ia ss[m] ss[m+1])):=ir.below a8.out ar;have aQ:kV (ia ss[m] ss[m+1])<=1000:=bE (Az _) a9.out;clear aA ar;by_cases ai:100<kV (ia ss[m] ss[m+1])
    .have ab:bH (jS ss (m:Int)=(4,ss)):=by show jS _ _=_; rw[HU.out,a7.out,if_pos ai]
     have ak:(100:Int)<(kV (ia ss[m] ss[m+1]):Int):=by omega
     clear ai;go_wp2;go_ret;refine⟨iJ (by rw[ab.out]; rfl),F,?_,λk hk=>Or.inl hk,gV.jk aa.out⟩;rw[ab.out];exact we.below HP.out aa.out
    .have ab:bH (jS ss (m:Int)=(0,lq ss m (ia ss[m] ss[m+1]))):=by show jS _ _=_; rw[HU.out,a7.out,if_neg ai]; rfl
     have ak:¬(100:Int)<(kV (ia ss[m] ss[m+1]):Int):=by omega
     have al:bH (Inv buf (lq ss m (ia ss[m] ss[m+1]))):=by have:=C0 HE.out.inv (m:Int); rw[ab.out]at this; exact this
     have au:bH (Below w.heap.size w w6.drew):=⟨aa.out.os,aa.out.tape,aa.out.output,aa.out.size,aa.out.block⟩;have bn:w6.cell? ⟨b,1,none⟩=some (.slice (some ⟨g,0,none⟩) ss.length cS):=b8 aa.out aG
     have av:=yG M (ia ss[m] ss[m+1]) w6.drew aP.out (λhp=>al.out.nv _ (by
      unfold lq;rw[if_pos hp]
      simp))
     clear ai;go_wp2_with fail;clear ak aQ;refine bA (S:=λw'=>True) (by kernel_rfl) ?_;refine iV 0 ?_ trivial ?_<|iV 1 ?_ trivial ?_<|iV 2 ?_ trivial ?_<|iV 3 ?_ trivial ?_<|iV 5 ?_ trivial ?_<|iV 6 ?_ trivial ?_<|iV 7 ?_ trivial ?_<|iV 8 ?_ trivial ?_ ?_
     any_goals(rintro w' _; go_simp; first|done|with_reducible rfl)
     refine b6 (rs:=[4,9]) (by kernel_rfl) (by simp) ?_;intro i hi;simp only[b3,b1,or_false]at hi;rcases hi with rfl|rfl
     .refine b7 (by rfl) λK' y=>?_;rw[if_pos (by rfl)];unfold bG;go_simp;refine y _ _ ⟨trivial,?_⟩;clear y;refine b6 (rs:=[9]) (by kernel_rfl) (by simp) ?_;intro i hi;simp only[bz]at hi;subst hi;refine b7 (by rfl) λK' y=>?_;rw[if_pos (by rfl)];unfold bG;go_simp;refine av.mono ?_;rintro e x1 ⟨v1,rfl,am,an⟩;have W:Below w.heap.size w x1:=au.out.trans (an.mono au.out.size);have O:x1.heap[b]?=some (.cells #[.map (some Bb),.slice (some ⟨g,0,none⟩) ss.length cS,vM,vK] 90 (0,0)):=by rw[W.block b aB]; exact HE.out.blk
      have ax:x1.cell? ⟨b,1,none⟩=some (.slice (some ⟨g,0,none⟩) ss.length cS):=by rw[Ps O]; rfl
      refine y _ _ ⟨trivial,?_⟩;clear y av an
      have ac:x1.ownsRow 0 9 1 (.slice (some ⟨g,0,none⟩) (ss.map ix).length cS) (ss.map ix).length (gQ (ss.map ix)):=by
       rw[bb];exact iB HE.out.row (λk hk=>W.block k (HF.out k (HE.out.mo k hk)))
      have ad:=qv x1 g m cS (ss.map ix) v1 (jd (ia ss[m] ss[m+1])) ac am (kO _) (by rw[bb]; omega) (by rw[bb]; omega);rw[bb]at ad;refine b6 (rs:=[10]) (by kernel_rfl) (by simp) ?_;intro i hi;simp only[bz]at hi;subst hi;refine b7 (by rfl) λK' y=>?_;rw[if_pos (by rfl)];unfold bG;go_simp;refine ad.mono ?_;rintro e x2 ⟨v2,rfl,Y,ae,ao⟩;obtain⟨ln,af⟩:∃ln,ln=((ss.map ix).take m++(jd (ia ss[m] ss[m+1])++(ss.map ix).drop (m+2))).length:=⟨_,rfl⟩;rw[<-af]at Y;have ay:bH (ln=((ss.map ix).take m++(jd (ia ss[m] ss[m+1])++(ss.map ix).drop (m+2))).length):=af;clear af;obtain⟨a2,c2,rfl,aR⟩:=ib Y;have ag:x2.heap[b]?=some (.cells #[.map (some Bb),.slice (some ⟨g,0,none⟩) ss.length cS,vM,vK] 90 (0,0)):=by rw[ae.block b (iN O) (λe=>nu O ac (by decide) (by rw[e]; rfl))]; exact O
      refine y _ _ ⟨trivial,?_⟩;clear y ad
      have U:x2.ownsRow 0 9 1 (.slice a2 ln c2) (lq ss m (ia ss[m] ss[m+1])).length (gQ ((lq ss m (ia ss[m] ss[m+1])).map ix)):=by
       rw[kU,<-bb (f:=ix),kU,<-ay.out];exact Y
      have B:=HE.out.nv HF.out W (ae.mono (λk hk=>by subst hk; rfl)) U (λk hk=>by
       rcases ao k hk with h|h
       .subst h; exact Or.inl rfl
       .exact Or.inr h)
      refine iV 11 ?_ trivial ?_<|iV 12 ?_ trivial ?_ ?_
      any_goals(rintro w' _; go_simp; first|done|with_reducible rfl)
      have az:x2.cell? ⟨b,1,none⟩=some (.slice (some ⟨g,0,none⟩) ss.length cS):=by rw[Ps ag]; rfl
      have a0:x2.frozen? ⟨b,1,none⟩=false:=Ue ag 1;clear Y ae ao U ag ac am O W ax;refine b6 (rs:=[13]) (by kernel_rfl) (by simp) ?_;intro i hi;simp only[bz]at hi;subst hi;refine b7 (by rfl) λK' y=>?_;rw[if_pos (by rfl)];unfold bG;go_simp;refine y _ _ ⟨trivial,b9 (by kernel_rfl) ?_ _⟩;clear y az a0;obtain⟨x3,ah⟩:∃x3,x3=x2.setCell ⟨b,1,none⟩ (.slice a2 ln c2):=⟨_,rfl⟩;have aj:x3.heap.size=x2.heap.size:=by rw[ah]; simp[bI]
      rw[<-ah]at B⊢;rw[<-aj]at B;have ap:bH (∃F':Nat->Prop,we vM vK x3 F' b buf (lq ss m (ia ss[m] ss[m+1]))/\(∀k,F' k->F k\/w.heap.size<=k)/\gV F w x3):=tH HE.out HF.out B al.out;clear ah aj B;go_wp2;go_ret;refine⟨iJ (by rw[ab.out]; rfl),?_⟩;rw[ab.out];exact ap.out
     .refine b7 (by rfl) λK' y=>?_;rw[if_pos (by rfl)];unfold bG;go_simp;refine av.mono ?_;rintro e x1 ⟨v1,rfl,am,an⟩;have W:Below w.heap.size w x1:=au.out.trans (an.mono au.out.size);have O:x1.heap[b]?=some (.cells #[.map (some Bb),.slice (some ⟨g,0,none⟩) ss.length cS,vM,vK] 90 (0,0)):=by rw[W.block b aB]; exact HE.out.blk
      have ax:x1.cell? ⟨b,1,none⟩=some (.slice (some ⟨g,0,none⟩) ss.length cS):=by rw[Ps O]; rfl
      refine y _ _ ⟨trivial,?_⟩;clear y av an;refine b6 (rs:=[4]) (by kernel_rfl) (by simp) ?_;intro i hi;simp only[bz]at hi;subst hi;refine b7 (by rfl) λK' y=>?_;rw[if_pos (by rfl)];unfold bG;go_simp;refine y _ _ ⟨trivial,?_⟩;clear y
      have ac:x1.ownsRow 0 9 1 (.slice (some ⟨g,0,none⟩) (ss.map ix).length cS) (ss.map ix).length (gQ (ss.map ix)):=by
       rw[bb];exact iB HE.out.row (λk hk=>W.block k (HF.out k (HE.out.mo k hk)))
      have ad:=qv x1 g m cS (ss.map ix) v1 (jd (ia ss[m] ss[m+1])) ac am (kO _) (by rw[bb]; omega) (by rw[bb]; omega);rw[bb]at ad;refine b6 (rs:=[10]) (by kernel_rfl) (by simp) ?_;intro i hi;simp only[bz]at hi;subst hi;refine b7 (by rfl) λK' y=>?_;rw[if_pos (by rfl)];unfold bG;go_simp;refine ad.mono ?_;rintro e x2 ⟨v2,rfl,Y,ae,ao⟩;obtain⟨ln,af⟩:∃ln,ln=((ss.map ix).take m++(jd (ia ss[m] ss[m+1])++(ss.map ix).drop (m+2))).length:=⟨_,rfl⟩;rw[<-af]at Y;have ay:bH (ln=((ss.map ix).take m++(jd (ia ss[m] ss[m+1])++(ss.map ix).drop (m+2))).length):=af;clear af;obtain⟨a2,c2,rfl,aR⟩:=ib Y;have ag:x2.heap[b]?=some (.cells #[.map (some Bb),.slice (some ⟨g,0,none⟩) ss.length cS,vM,vK] 90 (0,0)):=by rw[ae.block b (iN O) (λe=>nu O ac (by decide) (by rw[e]; rfl))]; exact O
      refine y _ _ ⟨trivial,?_⟩;clear y ad
      have U:x2.ownsRow 0 9 1 (.slice a2 ln c2) (lq ss m (ia ss[m] ss[m+1])).length (gQ ((lq ss m (ia ss[m] ss[m+1])).map ix)):=by
       rw[kU,<-bb (f:=ix),kU,<-ay.out];exact Y
      have B:=HE.out.nv HF.out W (ae.mono (λk hk=>by subst hk; rfl)) U (λk hk=>by
       rcases ao k hk with h|h
       .subst h; exact Or.inl rfl
       .exact Or.inr h)
      refine iV 11 ?_ trivial ?_<|iV 12 ?_ trivial ?_ ?_
      any_goals(rintro w' _; go_simp; first|done|with_reducible rfl)
      have az:x2.cell? ⟨b,1,none⟩=some (.slice (some ⟨g,0,none⟩) ss.length cS):=by rw[Ps ag]; rfl
      have a0:x2.frozen? ⟨b,1,none⟩=false:=Ue ag 1;clear Y ae ao U ag ac am O W ax;refine b6 (rs:=[13]) (by kernel_rfl) (by simp) ?_;intro i hi;simp only[bz]at hi;subst hi;refine b7 (by rfl) λK' y=>?_;rw[if_pos (by rfl)];unfold bG;go_simp;refine y _ _ ⟨trivial,b9 (by kernel_rfl) ?_ _⟩;clear y az a0;obtain⟨x3,ah⟩:∃x3,x3=x2.setCell ⟨b,1,none⟩ (.slice a2 ln c2):=⟨_,rfl⟩;have aj:x3.heap.size=x2.heap.size:=by rw[ah]; simp[bI]
      rw[<-ah]at B⊢;rw[<-aj]at B;have ap:bH (∃F':Nat->Prop,we vM vK x3 F' b buf (lq ss m (ia ss[m] ss[m+1]))/\(∀k,F' k->F k\/w.heap.size<=k)/\gV F w x3):=tH HE.out HF.out B al.out;clear ah aj B;go_wp2;go_ret;refine⟨iJ (by rw[ab.out]; rfl),?_⟩;rw[ab.out];exact ap.out
end
section
open Go.RowKit Go.Maps
def RM(y:World->(Nat->Prop)->Nat->List gS->List (List gS)->Prop)(w:World)(F:Nat->Prop)(b:Nat)(code:Nat)(buf:List gS)(ss:List (List gS))(e:Ending)(w':World):Prop:=
 e=.returned (.int .i64 code)/\∃F':Nat->Prop,y w' F' b buf ss/\(∀k,F' k->F k\/w.heap.size<=k)/\gV F w w'
end
section
open Go.RowKit Go.Maps
variable {c:Array Value} {ss:List (List gS)} {ts:List (List Wd)} {buf:List gS} {kn:List Wd} {b n:Nat} {fr:Nat×Nat} {F' F1 F2:Nat->Prop} {e:TypeId} {vK vS:Value} {w w':World}
def T0(y vS:Value)(w:World)(F:Nat->Prop)(b:Nat)(ts:List (List Wd)):Prop:=(∀k,F k->k<w.heap.size)/\∃B n vK kn,PW w F b y vS ts B n vK kn
theorem CK{vB:Value}(w:World)(F:Nat->Prop)(b:Nat)(ts:List (List Wd))(s:ByteArray)(hP:T0 vB vS w F b ts)(hB:jE ts<=16777216)(hs:s.size<=bC) :
  bB prog 34 #[.pointer (some ⟨b,0,none⟩),.string s] w λe w'=>e=.returned (.int .i64 (oT ts s.data.toList).1)/\
   ∃F':Nat->Prop,T0 vB vS w' F' b (oT ts s.data.toList).2/\(∀k,F' k->F k\/w.heap.size<=k)/\gV F w w':=by
 obtain⟨hF,B,n,vK,kn,hW⟩:=hP;by_cases h:iX s.data.toList=true/\s.data.toList≠[]
 .have HO:bH (oT ts s.data.toList=if 60<(iA (ts++[jK (iD s.data.toList)])).length then(4,ts)else(0,ts++[jK (iD s.data.toList)])):=by
   show oT ts s.data.toList=_;unfold oT;rw[if_pos h]
  have hT:=rT s w hs;rw[decide_eq_true h]at hT;obtain⟨ag,ah⟩:=xH s h.1;have ai:=xF s w.drew h.1;clear h hs;generalize jK (iD s.data.toList)=t at *;go_enter func34,ntmps34;go_wp2_with fail;refine hT.mono ?_;rintro e w' ⟨rfl,rfl⟩;clear hT;by_cases Y:60<(iA (ts++[t])).length
  .have aa:bH (oT ts s.data.toList=(4,ts)):=by show _=_; rw[HO.out,if_pos Y]
   have ab:bB prog 67 #[.string s] w.drew λe w1=>∃a c,e=.returned (.slice a t.length c)/\Below w.heap.size w w1/\
     bB prog 66 #[.pointer (some ⟨b,2,none⟩),.slice a t.length c] w1 λe w2=>e=.returned (.bool false)/\Below w.heap.size w w2:=by
    refine ai.mono ?_;rintro e w1 ⟨v,rfl,U,y⟩;have W:w1.ownsRow w.heap.size 9 1 v t.length (gQ t):=U;have O:Below w.heap.size w w1:=⟨y.os,y.tape,y.output,y.size,y.block⟩;clear U y;obtain⟨a,c,rfl,_⟩:=ib W;refine⟨a,c,rfl,O,?_⟩;refine(J9 F b vB vS ts B n vK kn t w.heap.size _ w1 (λk D=>bD (hF k D) O.size) (hW.stay (λk D=>O.block k (hF k D))) W (λk D ak=>by have:=(W.lt k D).1; have:=hF k ak; omega) ag ah hB).mono ?_;rintro e w2 (⟨_,rfl,ac⟩|⟨hn,_⟩)
    .exact⟨rfl,O.trans (ac.mono O.size)⟩
    .exact absurd Y hn
   clear ai Y ag ah;go_wp2_with fail
   go_region_law (first
    |(go_simp
      go_at_call 67
      refine ab.mono ?_
      rintro e w1 ⟨a,c,rfl,O,ad⟩)
    |(go_simp
      go_at_call 66
      refine ad.mono ?_
      rintro e w2 ⟨rfl,ac⟩))
   all_goals
    go_wp2;go_ret;refine⟨iJ (by rw[aa.out]; rfl),F,?_,λk D=>Or.inl D,gV.jk ac⟩;rw[aa.out];exact⟨λk D=>bD (hF k D) ac.size,B,n,vK,kn,hW.stay (λk D=>ac.block k (hF k D))⟩
  .have aa:bH (oT ts s.data.toList=(0,ts++[t])):=by show _=_; rw[HO.out,if_neg Y]
   have ab:bB prog 67 #[.string s] w.drew λe w1=>∃a c,e=.returned (.slice a t.length c)/\Below w.heap.size w w1/\
     bB prog 66 #[.pointer (some ⟨b,2,none⟩),.slice a t.length c] w1 λe w2=>e=.returned (.bool true)/\(∃F' n' ae af,(∀k,F' k->k<w2.heap.size)/\(∀k,F' k->F k\/w.heap.size<=k)/\PW w2 F' b vB vS (ts++[t]) B n' ae af)/\gV F w w2:=by
    refine ai.mono ?_;rintro e w1 ⟨v,rfl,U,y⟩;have W:w1.ownsRow w.heap.size 9 1 v t.length (gQ t):=U;have O:Below w.heap.size w w1:=⟨y.os,y.tape,y.output,y.size,y.block⟩;clear U y;obtain⟨a,c,rfl,_⟩:=ib W;refine⟨a,c,rfl,O,?_⟩;have am:w.heap.size<=w1.heap.size:=O.size;refine(J9 F b vB vS ts B n vK kn t w.heap.size _ w1 (λk D=>bD (hF k D) am) (hW.stay (λk D=>O.block k (hF k D))) W (λk D ak=>by have:=(W.lt k D).1; have:=hF k ak; omega) ag ah hB).mono ?_;rintro e w2 (⟨hy,_⟩|⟨_,rfl,⟨n',ae,af,al⟩,aj⟩)
    .exact absurd hy Y
    .have ap:=aj.size;refine⟨rfl,⟨Q4 F w1 w2,n',ae,af,?_,?_,al⟩,?_⟩
     .rintro k (D|D)
      .have:=hF k D; omega
      .exact D.2
     .rintro k (D|D)
      .exact Or.inl D
      .exact Or.inr (by omega)
     .exact(gV.jk (F:=F) O).trans aj (λ_ _ h=>h)
   clear ai Y ag ah;go_wp2_with fail
   go_region_law (first
    |(go_simp
      go_at_call 67
      refine ab.mono ?_
      rintro e w1 ⟨a,c,rfl,O,ad⟩)
    |(go_simp
      go_at_call 66
      refine ad.mono ?_
      rintro e w2 ⟨rfl,⟨F',n',ae,af,an,ao,al⟩,aj⟩))
   all_goals
    go_wp2;go_ret;refine⟨iJ (by rw[aa.out]; rfl),F',?_,ao,aj⟩;rw[aa.out];exact⟨an,B,n',ae,af,al⟩
 .have HO:bH (oT ts s.data.toList=(2,ts)):=by show oT ts s.data.toList=_; unfold oT; rw[if_neg h]
  have hT:=rT s w hs;rw[decide_eq_false h]at hT;go_enter func34,ntmps34;go_wp2_with fail;refine hT.mono ?_;rintro e w' ⟨rfl,rfl⟩;go_wp2;go_ret;refine⟨iJ (by rw[HO.out]; rfl),F,?_,λk D=>Or.inl D,gV.refl _ _⟩;rw[HO.out];exact⟨hF,B,n,vK,kn,hW⟩
structure PJ(w:World)(F1 F2:Nat->Prop)(b:Nat)(buf:List gS)(ss:List (List gS))(ts:List (List Wd)):Prop where
 T1:∀k,F1 k->k<w.heap.size
 T6:∀k,F2 k->k<w.heap.size
 apart:∀k,F1 k->F2 k->k=b
 both:∃Bb vS B n vK kn,FA w F1 b buf ss Bb vS (.map (some B)) vK/\PW w F2 b (.map (some Bb)) vS ts B n vK kn
theorem PJ.below(h:PJ w F1 F2 b buf ss ts)(D:w.heap.size<=w'.heap.size)(hb:∀k,k<w.heap.size->w'.heap[k]?=w.heap[k]?):PJ w' F1 F2 b buf ss ts:=by
 obtain⟨O,U,W,Y,vS,B,n,vK,kn,h4,h5⟩:=h;exact⟨λk y=>bD (O k y) D,λk y=>bD (U k y) D,W,Y,vS,B,n,vK,kn,h4.stay λk y=>hb k (O k y),h5.stay λk y=>hb k (U k y)⟩
theorem Rr{B:Nat}{f:List Wd->Nat}(h:iU w B n f)(hb:w.heap[b]?=some (.cells c e fr)):B≠b:=by
 rintro rfl;obtain⟨D,⟨es,clock,y,_⟩,_⟩:=h;rw[y]at hb;cases hb
theorem Sp{B:Nat}{es:List gS}(h:je w B es)(hb:w.heap[b]?=some (.cells c e fr)):B≠b:=by
 rintro rfl;obtain⟨D,⟨es,clock,y,_⟩,_⟩:=h;rw[y]at hb;cases hb
theorem N4{base:Nat}{v:Value}{xs:List Value}(h:w.ownsRow base 9 1 v n xs)(hb:w.heap[b]?=some (.cells c 90 fr)):∀k,v.ownBlock=some k->k≠b:=by
 rintro k y rfl;rcases h.2 with⟨rfl,_⟩|⟨g,cap,B,rfl,_,D,_⟩
 .cases y
 .simp only[Value.ownBlock,Option.some.injEq]at y;subst y;rw[D]at hb;simp only[Option.some.injEq,Obj.cells.injEq]at hb;exact absurd hb.2.1 (by decide)
theorem PJ.entries{buf':List gS}{ss':List (List gS)}{Bb:Nat}{B:Nat}(h1:∀k,F1 k->k<w.heap.size)(Y:∀k,F2 k->k<w.heap.size)(h3:∀k,F1 k->F2 k->k=b)(h4:FA w F1 b buf ss Bb vS (.map (some B)) vK)(y:PW w F2 b (.map (some Bb)) vS ts B n vK kn)
  (hp:we (.map (some B)) vK w' F' b buf' ss') (hF:∀k,F' k->F1 k\/w.heap.size<=k) (O:gV F1 w w'):PJ w' F' F2 b buf' ss' ts:=by
 obtain⟨g1,aa,ab,g2⟩:=hp;have hz:w.heap.size<=w'.heap.size:=O.size;have mT:∀k,F2 k->k≠b->w'.heap[k]?=w.heap[k]?:=λk D ac=>O.block k (Y k D) λW=>ac (h3 k W D);refine⟨g1,λk D=>bD (Y k D) hz,λk D U=>?_,aa,ab,B,n,vK,kn,g2,⟨g2.blk,y.fb,y.fB,y.cnt.stay (mT B y.fB (Rr y.cnt y.blk)),y.room,iB y.row λk D=>mT k (y.mo k D) (N4 y.row y.blk k D),y.mo,y.perm,y.ok,y.yE⟩⟩;rcases hF k D with W|W
 .exact h3 k W U
 .exact absurd (Y k U) (by omega)
theorem PJ.words{O:List (List Wd)}{U:Nat}{B:Nat}(h1:∀k,F1 k->k<w.heap.size)(h2:∀k,F2 k->k<w.heap.size)(h3:∀k,F1 k->F2 k->k=b)(y:FA w F1 b buf ss U vS (.map (some B)) vK)(h5:PW w F2 b (.map (some U)) vS ts B n vK kn)
  (hp:T0 (.map (some U)) vS w' F' b O) (hF:∀k,F' k->F2 k\/w.heap.size<=k) (W:gV F2 w w'):PJ w' F1 F' b buf ss O:=by
 obtain⟨g1,B',n',aa,ab,g2⟩:=hp;have hz:w.heap.size<=w'.heap.size:=W.size;have mT:∀k,F1 k->k≠b->w'.heap[k]?=w.heap[k]?:=λk D ac=>W.block k (h1 k D) λY=>ac (h3 k D Y);refine⟨λk D=>bD (h1 k D) hz,g1,λk D ad=>?_,U,vS,B',n',aa,ab,⟨g2.blk,y.fb,y.fB,ir.stay y.say (mT U y.fB (Sp y.say y.blk)),iB y.row λk D=>mT k (y.mo k D) (N4 y.row y.blk k D),y.mo,y.inv⟩,g2⟩;rcases hF k ad with Y|Y
 .exact h3 k D Y
 .exact absurd (h1 k D) (by omega)
end
end Go.Proofs.YtocbogeoffeolaaGreatDoor
