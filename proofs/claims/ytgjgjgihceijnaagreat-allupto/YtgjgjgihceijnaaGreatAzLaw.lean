/- All holds: every call of any script of bulk at most 1048576 answers as the document does. Its condition: the bulk. -/
import Derived.Test.YtgjgjgihceijnaaGreatH06
import Derived.Test.YtgjgjgihceijnaaGreatRows
import Derived.ProofKit
import Derived.OpenShut
import Derived.ChangeOld
import Derived.Below
import Derived.Carry
import Derived.JoinedCond
open Go.Proofs.Tryz renaming prog->LC,checked->LD,f5->LG
open List renaming append_nil->LF
open Go.Proofs.Tryz
set_option maxRecDepth 100000
set_option maxHeartbeats 8000000
namespace Go.Proofs.YtgjgjgihceijnaaGreat
open Go.ChangeShapes Go.WideShapes Go.ChangeAt Go.RowKit Go.Stn
theorem DH:ownKnob Tryz.prog.godebug=none:=by kernel_rfl
theorem BZ:laidOutB LC=true:=by kernel_rfl
theorem Zz{H:Type}(d:DataW H):1<=Rows.uptoBulk d:=by
 cases d with
 | lit l=>cases l<;>simp[Rows.uptoBulk]
 | nil=>simp[Rows.uptoBulk]
 | ptr d=>simp[Rows.uptoBulk]
 | slice elems spare=>simp[Rows.uptoBulk]
 | agg bA=>simp[Rows.uptoBulk]
 | iface t d=>simp[Rows.uptoBulk]
 | map entries=>simp[Rows.uptoBulk]
 | held h=>simp[Rows.uptoBulk]
theorem d8{H:Type}(l:List (DataW H)):l.length<=Rows.uptoBulkAll l:=by
 induction l with
 | nil=>exact zL
 | cons x r ih=>have:=Zz x;simp only[Rows.uptoBulkAll,List.length_cons];omega
theorem DX{H:Type}{enc:TypeId×tV->H}{W:tW}{a:Option Addr}{F aJ:Nat}{d:DataW H}{ps:List MemPlace}(h:DataW.Trod enc LC W 0 (λ _=>true) true 36 (.slice a F aJ) d ps)(I:Rows.uptoBulk d<=1048576):
  Calls LC 5 #[.slice a F aJ] W λ e w'=>e=.returned (.bool true)/\Bl W w':=by
 rcases Yh h with U|⟨b,o,D,X,ops,rfl,J,V,C⟩
 ·subst U;exact Fm [] a aJ W (.inl rfl) (λ op h=>absurd h List.not_mem_nil) (by simp)
 ·have Q:ops.length<=1100000:=by
   have:=d8 ((List.range F).map D);rw[V]at I;simp only[Rows.uptoBulk]at I;simp only[List.length_map,List.length_range]at this;omega
  rw[<-J];exact Fm ops _ aJ W (.inr ⟨b,o,rfl,C.1⟩) C.2 Q
theorem Qe(os:Os)(D:os.Started)(H:Type)(enc:TypeId×tV->H)(F:Stop.Interp):
  ReturnsInHanded {} LD os 5 .any ((Rows.OpenSpec.upto Rows.allSpec).pre6 enc LC LG Rows.allUptoRow.domain false) (((Rows.OpenSpec.upto Rows.allSpec).at F).post enc LC LG false true false false):=by
 refine returnsInHanded_of_cond (C:=LD) (s:=Rows.OpenSpec.upto Rows.allSpec) (k:=Rows.uptoSmall) rfl DH D (by kernel_rfl) func5
  (OpenSpec.witness (enc:=enc) (C:=LD) (s:=Rows.OpenSpec.upto Rows.allSpec) (k:=Rows.uptoSmall) rfl false ⟨#[], #[.slice none 0 0],[]⟩ 8 (by kernel_rfl) (by kernel_rfl) (by kernel_rfl)
   (x:=([.nil],[],[])) (by kernel_rfl) rfl (by kernel_rfl)) ?_
 intro W aH args ds gs U o hW _ hk _;have I:∀(j:Nat) t v,Tryz.f5.params[j]?=some t->args[j]?=some v->Value.okWide LC W .any aH t v:=o;have J:=hW;obtain⟨p,q,Q,hV,rfl,aO,aL⟩:=hW;have Y:DataW.TrodAll enc LC W 0 (λ _=>true) true Tryz.f5.params.toList args.toList ds p:=Q;rw[params5]at Y I;obtain⟨Z,aT,d0,aW,p0,q0,V,rfl,rfl,h0,r0⟩:=trodAll_cons Y;obtain⟨rfl,rfl,rfl⟩:=trodAll_nil r0;obtain rfl:args= #[Z]:=by cases args;simp_all
 obtain⟨rfl,rfl⟩:=trodVars_none hV;obtain⟨a,aR,aJ,rfl⟩:=okWide_slice underlying36 (I 0 36 Z rfl rfl);clear Q o;simp only[LF]at J;have X:∀x∈p0,x.block<W.heap.size:=λ x hx=>by simpa using J.lt x (by simpa using hx)
 have hb:Rows.uptoBulk d0<=1048576:=by
  have:=of_decide_eq_true hk;simp only[LF,Rows.uptoBulkAll]at this;omega
 refine(DX h0 hb).mono λ e W' ⟨he,bel⟩=>?_
 subst he;exact⟨_,rfl,_,_,_,[],_,[],J,trodAll_mk1 (shut_bool underlying4 _),trodAll_mk1 (Below.trod BZ (by kernel_rfl) (of_decide_eq_true (by kernel_rfl)) h0 bel X),rfl,bel.frame _,λ h=>by cases h⟩
theorem all_holds:Rows.AllUptoSaid:=
 OpenClaim.holds_of_cond 5 LG rfl rfl rfl rfl rfl rfl rfl ⟨rfl,rfl,rfl,rfl,rfl⟩ rfl rfl rfl rfl rfl (by kernel_rfl) func5 (by kernel_rfl)
  (of_decide_eq_true (by kernel_rfl)) (by unfold Func.isWrapper;first|(rw[aB (by decide+kernel)];kernel_rfl)|(rw[aA (by decide+kernel)];exact⟨rfl,rfl⟩))
  (λ D o H C _ F=>Qe D o H C F)
