import Derived.Test.YtocbogeoffeolaaGreatDoorFolAF
set_option linter.unusedVariables false
set_option linter.unusedSimpArgs false
set_option maxHeartbeats 8000000
set_option maxRecDepth 1000000
open List renaming length_append->ae,sum_cons->af,map_cons->ag,length_cons->ah,filter_cons->ai,flatMap_cons->aj
open Nat renaming mul_left_comm->ak,mul_add->al,add_mul->am
namespace Go.Proofs.YtocbogeoffeolaaGreatDoor
section
open Go.RowKit
def Kd(e:gS):Prop:=e.name.length<=1048576/\e.text.length<=1048576/\(-9223372036854775808<=e.gT/\e.gT<=9223372036854775807)/\-9223372036854775808<=e.il/\e.il<=9223372036854775807
theorem OP{e:gS}(h:Kd e):(pZ e).length<=2097160:=by
 have y:=h.1;have B:=h.2.1;simp[pZ,io,kY]; omega
theorem NE(m:List gS)(h:∀e∈m,Kd e):(m.flatMap pZ).length<=m.length*2097160:=by
 induction m with
 |nil=>simp
 |cons e m y=>
  have D:=OP (h e (by simp));have O:=y (λx B=>h x (by simp[B]));rw[aj,ae,ah]; omega
def EI(p:Wd)(e:gS)(c:UInt8):Nat:=if tN (ie e) (p++[c])=true then 1 else 0
theorem Fx(p:Wd)(e:gS):∀(cs:List UInt8),(∀c∈cs,tN (ie e) (p++[c])=false)->(cs.map (EI p e)).sum=0:=by
 intro cs
 induction cs with
 |nil=>intro _; rfl
 |cons c cs y=>
  intro h;have B:=h c (by simp);rw[ag,af,y (λd D=>h d (by simp[D]))];simp[EI,B]
theorem PO(p:Wd)(e:gS):∀(cs:List UInt8),cs.Nodup->(cs.map (EI p e)).sum<=1:=by
 intro cs
 induction cs with
 |nil=>intro _; simp
 |cons c cs D=>
  intro h;have B:=List.nodup_cons.1 h;rw[ag,af]
  cases hb:tN (ie e) (p++[c])with
  |false=>have:=D B.2; simp only[EI,hb]; simpa using this
  |true=>
   rw[Fx p e cs (λd O=>?_)]
   .simp[EI,hb]
   .rw[Bool.eq_false_iff];intro y;have:=sI ((qd _ _).1 hb) ((qd _ _).1 y);subst this;exact B.1 O
theorem Qf(p:Wd)(cs:List UInt8)(e:gS)(G:List gS):(cs.map λc=>(lT (e::G) p c).length).sum=(cs.map (EI p e)).sum+(cs.map λc=>(lT G p c).length).sum:=by
 induction cs with
 |nil=>rfl
 |cons c cs h=>
  simp only[ag,af,h]
  have:(lT (e::G) p c).length=EI p e c+(lT G p c).length:=by
   unfold lT EI;rw[ai];split
   .simp; omega
   .simp
  omega
theorem K8(p:Wd)(cs:List UInt8)(B:cs.Nodup):∀G:List gS,(n5 G p).length+(cs.map λc=>(lT G p c).length).sum<=G.length:=by
 intro G
 induction G with
 |nil=>
  have:∀cs:List UInt8,(cs.map λc=>(lT [] p c).length).sum=0:=by
   intro cs
   induction cs with
   |nil=>rfl
   |cons c cs y=>rw[ag,af,y]; rfl
  rw[this]; simp[n5]
 |cons e G y=>
  rw[Qf];by_cases h:ie e=p
  .have D:=Fx p e cs (λc _=>by
    rw[Bool.eq_false_iff];intro hb;have:=((mX _ _ _).1 ((qd _ _).1 hb)).2.1
    rw[h]at this; omega)
   have O:(n5 (e::G) p).length=(n5 G p).length+1:=by
    unfold n5; rw[ai,if_pos (beq_iff_eq.2 h)]; rfl
   rw[ah]; omega
  .have D:=PO p e cs B
   have O:(n5 (e::G) p).length=(n5 G p).length:=by
    unfold n5; rw[ai,if_neg (by simpa using h)]
   rw[ah]; omega
theorem Nn:∀(f:Nat)(p:Wd)(G:List gS),(∀e∈G,Kd e)->(oM f p G).length<=f*(G.length*3145743)+5:=by
 intro f
 induction f with
 |zero=>intro p G _; simp[oM]
 |succ f ih=>
  intro p G U;have aa:=NE (n5 G p) (λe W=>U e (List.mem_filter.1 W).1);have ab:=K8 p (lQ G p) (pw (rG G p)) G
  have hk:∀cs:List UInt8,(∀c∈cs,c∈lQ G p)->(cs.flatMap λc=>io ((nP (lT G p c)).drop p.length)++oM f (nP (lT G p c)) (lT G p c)).length<=(cs.map λc=>(lT G p c).length).sum*(1048582+f*3145743):=by
   intro cs
   induction cs with
   |nil=>intro _; simp
   |cons c cs Y=>
    intro hc;have h1:=Y (λd hd=>hc d (by simp[hd]));have B:=wP (hc c (by simp));rw[<-uj]at B;have D:=List.length_pos_iff.2 B;obtain⟨e0,O⟩:=List.exists_mem_of_ne_nil _ B
    have ac:(nP (lT G p c)).length<=1048576:=by
     have a:=((r9 B).1 _ (List.mem_map.2 ⟨e0,O,rfl⟩)).length_le;have b:=(U e0 (lK.1 O).1).2.1;unfold ie at a;rw[j9]at a;omega
    have h2:=ih (nP (lT G p c)) (lT G p c) (λe W=>U e (lK.1 W).1);have h3:(io ((nP (lT G p c)).drop p.length)).length<=1048577:=by simp[io]; omega
    rw[aj,ae,ae,ag,af,am];generalize (lT G p c).length=n at *;have e1:n*(1048582+f*3145743)=n*1048582+f*(n*3145743):=by rw[al,ak]
    have h5:1048582<=n*1048582:=Nat.le_mul_of_pos_left _ D;omega
  have ad:=hk (lQ G p) (λ_ h=>h);rw[oM];simp only[ae,ah];have h3:(kY (k9 G)).length=3:=rfl;generalize ((lQ G p).map λc=>(lT G p c).length).sum=m at *;generalize ((lQ G p).flatMap λc=>io ((nP (lT G p c)).drop p.length)++oM f (nP (lT G p c)) (lT G p c)).length=z at *;generalize ((n5 G p).flatMap pZ).length=y at *;generalize (n5 G p).length=x at *;have e1:m*(1048582+f*3145743)=m*1048582+m*(f*3145743):=al _ _ _;have e2:(f+1)*(G.length*3145743)=G.length*3145743+G.length*(f*3145743):=by rw[am,Nat.one_mul,ak]; omega
  have e3:m*(f*3145743)<=G.length*(f*3145743):=Nat.mul_le_mul_right _ (by omega);omega
end
end Go.Proofs.YtocbogeoffeolaaGreatDoor
