/- All holds: every call of any script answers as the document does. No condition. -/
import Derived.Test.YtgjgjgihceijnaaGreatK06
import Derived.Test.YtgjgjgihceijnaaGreatRows
import Derived.ProofKit
import Derived.OpenShut
import Derived.ChangeOld
import Derived.Below
import Derived.Carry
import Derived.SizedLaws
open Go.Proofs.Tryz renaming prog->LD,checked->LF,f5->LG
open Go.Proofs.Tryz
set_option maxRecDepth 100000
set_option maxHeartbeats 8000000
namespace Go.Proofs.YtgjgjgihceijnaaGreat
open Go.ChangeShapes Go.WideShapes Go.ChangeAt Go.RowKit Go.Stn
theorem DR:ownKnob Tryz.prog.godebug=none:=by kernel_rfl
theorem b8:laidOutB LD=true:=by kernel_rfl
theorem Uy:Tryz.prog.bytesOf 86=48:=by kernel_rfl
theorem DQ{H:Type}{enc:TypeId×tV->H}{W:tW}{a:Option Addr}{F aJ:Nat}{d:DataW H}{ps:List MemPlace}(h:DataW.Trod enc LD W 0 (λ _=>true) true 36 (.slice a F aJ) d ps)(Q:∀e I,d=.slice e I->(e.length+I.length)*48<=140737488351232):
  Calls LD 5 #[.slice a F aJ] W λ e w'=>e=.returned (.bool true)/\Bl W w':=by
 rcases Ww h with J|⟨b,o,D,I,ops,rfl,V,U,C⟩
 ·subst J;exact Gk [] a aJ W (.inl rfl) (λ op h=>absurd h List.not_mem_nil) (by simp)
 ·have X:ops.length<=2932031007317:=by
   have:=Q _ _ U;simp only[List.length_map,List.length_range]at this;omega
  rw[<-V];exact Gk ops _ aJ W (.inr ⟨b,o,rfl,C.1⟩) C.2 X
theorem Oe(os:Os)(D:os.Started)(H:Type)(enc:TypeId×tV->H):
  ReturnsInHanded {} LF os 5 .any (Rows.allSpec.pre6 enc LD LG Rows.allRow.domain false) (Rows.allSpec.post enc LD LG false true false false):=by
 refine returnsInHanded_of_change_sized (C:=LF) DR D (by kernel_rfl) func5
  (ChangeSpec.witness6 (enc:=enc) (C:=LF) false ⟨#[], #[.slice none 0 0],[]⟩ 8 (by kernel_rfl) (by kernel_rfl) (by kernel_rfl) (by kernel_rfl)) ?_
 intro W aH args ds gs V o hW _ F _;have U:(DataW.weightsEach LD (Tryz.f5.params.toList++Rows.allSpec.plain.varTypes LD) (ds++gs)).all (·<=reachBytes)=true:=F;have I:∀(j:Nat) t v,Tryz.f5.params[j]?=some t->args[j]?=some v->Value.okWide LD W .any aH t v:=o;have J:=hW;obtain⟨p,q,Q,hV,rfl,aO,aR⟩:=hW;have hA:DataW.TrodAll enc LD W 0 (λ _=>true) true Tryz.f5.params.toList args.toList ds p:=Q;rw[params5]at hA I U;obtain⟨v0,aW,d0,aL,p0,q0,X,rfl,rfl,h0,r0⟩:=trodAll_cons hA;obtain⟨rfl,rfl,rfl⟩:=trodAll_nil r0;obtain rfl:args= #[v0]:=by cases args;simp_all
 obtain⟨rfl,rfl⟩:=trodVars_none hV;obtain⟨a,aT,aJ,rfl⟩:=okWide_slice underlying36 (I 0 36 v0 rfl rfl);clear Q o F;simp only[List.append_nil]at J;have Z:∀x∈p0,x.block<W.heap.size:=λ x hx=>by simpa using J.lt x (by simpa using hx)
 have hb:∀e sp,d0=.slice e sp->(e.length+sp.length)*48<=140737488351232:=λ e sp Y=>by
  subst Y;have:=sized_slice U (j:=0) rfl rfl underlying36;rw[Uy]at this;exact this
 refine(DQ h0 hb).mono λ e W' ⟨Y,bel⟩=>?_
 subst Y;exact⟨_,rfl,_,_,_,[],_,[],J,trodAll_mk1 (shut_bool underlying4 _),trodAll_mk1 (Below.trod b8 (by kernel_rfl) (of_decide_eq_true (by kernel_rfl)) h0 bel Z),rfl,bel.frame _,λ h=>by cases h⟩
theorem all_holds:Rows.AllSaid:=
 OpenClaim.holds_of_wide 5 LG rfl rfl rfl rfl rfl rfl rfl ⟨rfl,rfl,rfl,rfl,rfl⟩ rfl rfl rfl rfl rfl (by kernel_rfl) func5 (by kernel_rfl)
  (of_decide_eq_true (by kernel_rfl)) (by unfold Func.isWrapper;first|(rw[aB (by decide+kernel)];kernel_rfl)|(rw[aA (by decide+kernel)];exact⟨rfl,rfl⟩))
  (λ D o H C _=>Oe D o H C)
