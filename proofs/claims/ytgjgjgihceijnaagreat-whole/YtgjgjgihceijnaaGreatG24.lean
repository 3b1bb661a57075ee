import Derived.Test.YtgjgjgihceijnaaGreatG20
import Derived.Test.YtgjgjgihceijnaaGreatG08
import Derived.Test.YtgjgjgihceijnaaGreatG03
import Derived.Test.YtgjgjgihceijnaaGreatChecked
import Derived.WalkKit
import Derived.WalkSpells
import Derived.WalkLawsBesides
import Derived.Laws.IdiomStrings
open UInt8 renaming ofNat->aL
open Nat renaming lt_of_lt_of_le->aO,le_refl->aR,le_of_lt->bC,le_trans->bM,not_lt_zero->cL,zero_le->cP
open List renaming length_append->aT,mem_singleton->bD,mem_append->bK,map_cons->bN,not_mem_nil->bO,map_nil->cF,map_append->cN
open Go.Value renaming oneCell'->bS,ownBlock->bT
open Go.RowKit.Below renaming refl->cO
set_option maxRecDepth 100000
set_option maxHeartbeats 8000000
namespace Go.Stn
open Go.RowKit
structure CM (w:World)(top cg n K:Nat)(yb:Nat->Nat)(zb:Nat->Nat->Nat)(ns:Nat->Nat)(tk:Nat->Nat->Nat)(nx:Nat->Nat->Nat->Int):Prop where
 cc:∀c,c<n->w.cell? ⟨cg,c,none⟩=some (.slice (some ⟨yb c,0,none⟩) (ns c) (ns c))
 tc:∀c s,c<n->s<ns c->w.cell? ⟨yb c,s*2,none⟩=some (.int .i64 (tk c s))
 nc:∀c s,c<n->s<ns c->w.cell? ⟨yb c,s*2+1,none⟩=some (.slice (some ⟨zb c s,0,none⟩) K K)
 lc:∀c s k,c<n->s<ns c->k<K->w.cell? ⟨zb c s,k,none⟩=some (.int .i64 (nx c s k))
 b0:cg<top
 b1:∀c,c<n->yb c<top
 b2:∀c s,c<n->s<ns c->zb c s<top
theorem CM.below {w w':World}{top cg n K B:Nat}{yb:Nat->Nat}{zb:Nat->Nat->Nat}{ns:Nat->Nat}{tk:Nat->Nat->Nat}{nx:Nat->Nat->Nat->Int}(h:CM w top cg n K yb zb ns tk nx)(hB:Below B w w')(hb:top<=B):CM w' top cg n K yb zb ns tk nx:=
 ⟨fun c hc=>(hB.cell (p:=⟨cg,c,none⟩) (aO h.b0 hb)).trans (h.cc c hc),fun c s hc hs=>(hB.cell (p:=⟨yb c,s*2,none⟩) (aO (h.b1 c hc) hb)).trans (h.tc c s hc hs),fun c s hc hs=>(hB.cell (p:=⟨yb c,s*2+1,none⟩) (aO (h.b1 c hc) hb)).trans (h.nc c s hc hs),
  fun c s k hc hs hk=>(hB.cell (p:=⟨zb c s,k,none⟩) (aO (h.b2 c s hc hs) hb)).trans (h.lc c s k hc hs hk),h.b0,h.b1,h.b2⟩
def fQ (ns:Nat->Nat)(nx:Nat->Nat->Nat->Int)(n g h:Nat):Bool:=decide (∀c,c<n->∀s,s<ns c->nx c s g=nx c s h)
theorem Su {ns:Nat->Nat}{nx:Nat->Nat->Nat->Int}{n g h c s:Nat}(hc:c<n)(hs:s<ns c)(hne:nx c s g≠nx c s h):fQ ns nx n g h=false:=by
 unfold fQ;rw[decide_eq_false_iff_not];intro q;exact hne (q c hc s hs)
theorem I8 {ns:Nat->Nat}{nx:Nat->Nat->Nat->Int}{n g h:Nat}(hh:∀c,c<n->∀s,s<ns c->nx c s g=nx c s h):fQ ns nx n g h=true:=by
 unfold fQ;rw[decide_eq_true_eq];exact hh
def ldB (x:Int):Nat:=if x= -1 then 255 else x.toNat % 256
end Go.Stn
namespace Go.Proofs.YtgjgjgihceijnaaGreat
open Go.RowKit Go.Stn
theorem Tryz.stateSize:(Tryz.prog.info? 121).map (·.size)=some 2:=by kernel_rfl
theorem Mg (cg n K cap:Nat)(yb:Nat->Nat)(zb:Nat->Nat->Nat)(ns:Nat->Nat)(tk:Nat->Nat->Nat)(nx:Nat->Nat->Nat->Int)(g h:Nat)(w:World)(hn:n<=1000)(hns:∀c,c<n->ns c<=1000)(hg:g<K)(hh:h<K)(hC:CM w w.heap.size cg n K yb zb ns tk nx):
  Calls Tryz.prog 74 #[.slice (some ⟨cg,0,none⟩) n cap,.int .i64 g,.int .i64 h] w fun e w'=>e= .returned (.bool (fQ ns nx n g h))/\Below w.heap.size w w':=by
 have HC:=aA hC;have HNS:=aA hns;clear hC hns;have hgI:(0:Int)<=(g:Int)/\(g:Int)<(K:Int):=by omega
 have hhI:(0:Int)<=(h:Int)/\(h:Int)<(K:Int):=by omega
 go_enter Tryz.func74,Tryz.ntmps74;go_wp2_with fail
 go_loopw [13] (fun x wr=>∃c:Nat,x= .int .i64 (c:Int)/\c<=n/\(∀c',c'<c->∀s,s<ns c'->nx c' s g=nx c' s h)/\Below w.heap.size w wr) (fun x _=>n - (intOf x).toNat)
 case atStart=>exact⟨0,rfl,cP _,fun c hc=>absurd hc (cL _),cO _ _⟩
 case round=>
  obtain⟨c,rfl,hcn,hall,hb⟩:=hrel;have HA:=aA hall;have HB:=aA hb;clear hall hb;by_cases hlt:c<n
  ·have c1:=(HC.out.below HB.out (aR _)).cc c hlt;obtain⟨N,hN⟩:∃N,ns c=N:=⟨_,rfl⟩
   rw[hN]at c1;have hNb:N<=1000:=by rw[←hN];exact HNS.out c hlt
   replace hN:=aA hN;have hcI:(0:Int)<=(c:Int)/\(c:Int)<(n:Int):=by omega
   have hd1:decide ((c:Int)<(n:Int))=true:=by simp;omega
   go_wp2_with fail;clear c1
   go_loopw [19] (fun x wj=>∃s:Nat,x= .int .i64 (s:Int)/\s<=N/\(∀s',s'<s->nx c s' g=nx c s' h)/\Below w.heap.size w wj) (fun x _=>N - (intOf x).toNat)
   case atStart=>exact⟨0,rfl,cP _,fun s hs=>absurd hs (cL _),HB.out⟩
   case round=>
    obtain⟨s,rfl,hsN,hall2,hb2⟩:=hrel;have HA2:=aA hall2;have HB2:=aA hb2;have hzw:=hb2.size;clear hall2 hb2 HB;by_cases hs:s<N
    ·have hs':s<ns c:=by rw[hN.out];exact hs
     have HCj:=aA (HC.out.below HB2.out (aR _));have HRG:Hid (wr.rangeAt (yb c) (s*2) [.int .i64 (tk c s),.slice (some ⟨zb c s,0,none⟩) K K]):=fun i v hv=>by
      have hi:i<2:=(List.getElem?_eq_some_iff.1 hv).1;have:i=0\/i=1:=by omega
      rcases this with rfl | rfl
      ·cases hv;exact HCj.out.tc c s hlt hs'
      ·cases hv;exact HCj.out.nc c s hlt hs'
     have HBA:Hid (Below w.heap.size w (wr.alloc (.cells #[.int .i64 (tk c s),.slice (some ⟨zb c s,0,none⟩) K K] 121))):=HB2.out.alloc hzw _;have d1:(wr.alloc (.cells #[.int .i64 (tk c s),.slice (some ⟨zb c s,0,none⟩) K K] 121)).cell? ⟨wr.heap.size,1,none⟩=some (.slice (some ⟨zb c s,0,none⟩) K K):=(World.cell?_alloc_at _ _ _ 1 rfl).trans rfl;have HCk:=aA (HC.out.below HBA.out (aR _));have l1:=HCk.out.lc c s g hlt hs' hg;have l2:=HCk.out.lc c s h hlt hs' hh;have HNO:=aA (@Su ns nx n g h c s hlt hs');have HST:Hid (nx c s g=nx c s h->∀s',s'<s+1->nx c s' g=nx c s' h):=fun e s' hs''=>by
      by_cases q:s'=s
      ·rw[q];exact e
      ·exact HA2.out s' (by omega)
     have hsI:(0:Int)<=(s:Int)/\(s:Int)<(N:Int):=by omega
     have hd2:decide ((s:Int)<(N:Int))=true:=by simp;omega
     generalize nx c s g=x1 at*;generalize nx c s h=x2 at*;generalize tk c s=tks at*;generalize zb c s=zbs at*;clear HCj HCk hs';go_upto_region 7 with(first | (refine wpList_load_mid rfl 121 (.tmp 21) rfl (yb c) (s*2) rfl [.int .i64 (tks:Int),.slice (some ⟨zbs,0,none⟩) K K] _ HRG.out Tryz.underlying121 rfl Tryz.stateSize ?_))
     generalize wr.alloc (.cells #[.int .i64 (tks:Int),.slice (some ⟨zbs,0,none⟩) K K] 121)=A at*;by_cases hne:x1=x2
     ·have hd3:(x1 !=x2)=false:=by rw[hne];simp
      have HA3:=aA (HST.out hne);clear hne;go_quiet (fail);go_wp2;go_roundw
      case rel=>exact⟨s+1,by go_num,hs,HA3.out,⟨HBA.out.os,HBA.out.tape,HBA.out.output,HBA.out.size,HBA.out.block⟩⟩
      case measure=>simp[intOf];omega
     ·have hd3:(x1 !=x2)=true:=by rw[bne_iff_ne];exact hne
      have HE:=aA (HNO.out hne);clear hne;go_quiet (fail);go_wp2;go_ret;exact⟨by rw[HE.out];rfl,⟨HBA.out.os,HBA.out.tape,HBA.out.output,HBA.out.size,HBA.out.block⟩⟩
    ·have hd2:decide ((s:Int)<(N:Int))=false:=by simp;omega
     have HA4:Hid (∀c',c'<c+1->∀s,s<ns c'->nx c' s g=nx c' s h):=fun c' hc' s' hs'=>by
      by_cases q:c'=c
      ·rw[q]at hs' ⊢;exact HA2.out s' (by rw[hN.out]at hs';omega)
      ·exact HA.out c' (by omega) s' hs'
     go_wp2;go_roundw
     case rel=>exact⟨c+1,by go_num,hlt,HA4.out,HB2.out⟩
     case measure=>simp[intOf];omega
  ·have e:c=n:=by omega
   subst e;have HE:=aA (I8 HA.out);have hd1:decide ((c:Int)<(c:Int))=false:=by simp
   go_wp2;go_ret;exact⟨by rw[HE.out];rfl,HB.out⟩
end Go.Proofs.YtgjgjgihceijnaaGreat
namespace Go.Stn
open Go.RowKit
def oK (q:Nat->Nat->Bool):Nat->Nat->List Nat->List Nat->List Nat×List Nat
 | 0,_,fin,firsts=>(fin,firsts)
 | d+1,s,fin,firsts=>
  if aX q firsts s firsts.length=firsts.length then oK q d (s+1) (fin++ [firsts.length]) (firsts++ [s])
  else oK q d (s+1) (fin++ [aX q firsts s firsts.length]) firsts
def gB (n:Nat)(q:Nat->Nat->Bool):List Nat×List Nat:=oK q n 0 [] []
theorem CM.raise {w:World}{top top' cg n K:Nat}{yb:Nat->Nat}{zb:Nat->Nat->Nat}{ns:Nat->Nat}{tk:Nat->Nat->Nat}{nx:Nat->Nat->Nat->Int}(h:CM w top cg n K yb zb ns tk nx)(ht:top<=top'):CM w top' cg n K yb zb ns tk nx:=
 ⟨h.cc,h.tc,h.nc,h.lc,aO h.b0 ht,fun c hc=>aO (h.b1 c hc) ht,fun c s hc hs=>aO (h.b2 c s hc hs) ht⟩
theorem jV {B B':Nat}{a b:World}(h:Below B a b)(hb:B'<=B):Below B' a b:=⟨h.os,h.tape,h.output,h.size,fun k hk=>h.block k (aO hk hb)⟩
end Go.Stn
namespace Go.Proofs.YtgjgjgihceijnaaGreat
open Go.RowKit Go.Stn
theorem Ow (cg n K cap:Nat)(yb:Nat->Nat)(zb:Nat->Nat->Nat)(ns:Nat->Nat)(tk:Nat->Nat->Nat)(nx:Nat->Nat->Nat->Int)(w:World)(hn:n<=1000)(hns:∀c,c<n->ns c<=1000)(hK:K<=300)(hC:CM w w.heap.size cg n K yb zb ns tk nx):
  Calls Tryz.prog 41 #[.int .i64 K,.slice (some ⟨cg,0,none⟩) n cap] w fun e w'=>Ka w (gB K (fQ ns nx n)).1 (gB K (fQ ns nx n)).2 e w':=by
 obtain⟨i0,hi0,hz0,hz1,hz2⟩:=info_parts Tryz.infoInt;have HI:Hid (Tryz.prog.info? 3=some i0/\i0.zero=some (.int .i64 0)/\i0.size=1/\i0.bytes=8):=⟨hi0,hz0,hz1,hz2⟩
 clear hi0 hz0 hz1 hz2;have HC:=aA hC;have HNS:=aA hns;clear hC hns;go_enter Tryz.func41,Tryz.ntmps41;go_wp2_with (first | (at_make;refine wpList_make_own w rfl _ _ 59 rfl w.heap.size 3 i0 (.int .i64 0) 1 Tryz.underlying59 HI.out.1 HI.out.2.1 HI.out.2.2.1 .i64 .i64 _ K rfl rfl rfl (by rw[HI.out.2.2.2];omega) (by unfold maxLen;omega) (aR _) ?_;intro w1 hown1 hg1));obtain⟨Q,EQ⟩:∃Q,fQ ns nx n=Q:=⟨_,rfl⟩
 replace EQ:=aA EQ;have HB1:Hid (Below w.heap.size w w1):=⟨hg1.os,hg1.tape,hg1.output,hg1.size,fun k hk=>hg1.block k hk (by simp)⟩
 have hz1:w.heap.size<w1.heap.size:=by have:=(hown1.lt w.heap.size rfl).2;omega
 have HO1:=aA (hown1.alloc (.cells #[] 3));have HB2:=aA (HB1.out.alloc (bC hz1) (.cells #[] 3));have HE2:Hid ((w1.alloc (.cells #[] 3)).ownsRow (w.heap.size+1) 3 1 (.slice (some ⟨w1.heap.size,0,none⟩) 0 0) 0 []):=uV (vD w1 3) hz1;clear hown1 hg1 HB1;generalize w1.alloc (.cells #[] 3)=w2 at*;generalize w1.heap.size=g20 at*
 go_loopg [6,7,8] K (fun gk fv sv iv wr=>∃(fin firsts:List Nat) (s g2 c2:Nat),fv= .slice (some ⟨w.heap.size,0,none⟩) fin.length K/\sv= .slice (some ⟨g2,0,none⟩) firsts.length c2/\iv= .int .i64 (s:Int)/\s+gk=K/\fin.length=s/\firsts.length<=s/\
  (∀x∈firsts,x<s)/\gB K Q=oK Q gk s fin firsts/\wr.ownsRow w.heap.size 3 1 (.slice (some ⟨w.heap.size,0,none⟩) fin.length K) fin.length (jD fin)/\
  wr.ownsRow (w.heap.size+1) 3 1 (.slice (some ⟨g2,0,none⟩) firsts.length c2) firsts.length (jD firsts)/\Below w.heap.size w wr)
 case atStart=>exact⟨[],[],0,g20,0,rfl,rfl,rfl,by omega,rfl,by simp,fun x hx=>absurd hx (bO),rfl,HO1.out,HE2.out,HB2.out⟩
 case round=>
  obtain⟨fin,firsts,s,g2,c2,rfl,rfl,rfl,hsg,hfl,hf100,hlt,heq,ho1,ho2,hb⟩:=hrel;have HQ:=aA heq;have HO1':=aA ho1;have HO2':=aA ho2;have HB:=aA hb;have HLT:=aA hlt;have HFL:=aA hfl;clear heq ho1 ho2 hb hlt hfl HO1 HE2 HB2;have hzr:w.heap.size<wr.heap.size:=(HO1'.out.lt _ rfl).2;by_cases hsn:s<K
  ·obtain⟨d,rfl⟩:∃d,gk=d+1:=⟨gk - 1,by omega⟩
   have hd1:decide ((s:Int)<(K:Int))=true:=by simp;omega
   have HNr:=aA (NIn.of_row HO2'.out);have hg2z:=(HO2'.out.lt g2 rfl).2;go_upto_block 2 with fail
   go_cut [9] from 13 to 45 (fun fv wc=>fv= .int .i64 ((aX Q firsts s firsts.length:Nat):Int)/\Below wr.heap.size wr wc)
   case first=>
    go_wp2_with fail
    go_loopg [9] firsts.length (fun gj fv wj=>∃(f:Nat),fv= .int .i64 (f:Int)/\f+gj=firsts.length/\Below wr.heap.size wr wj/\aX Q firsts s firsts.length=aX Q firsts s gj)
    case atStart=>exact⟨0,rfl,by omega,cO _ _,rfl⟩
    case round=>
     obtain⟨f,rfl,hfj,hbj,hfp⟩:=hrel;have HFP:=aA hfp;have HBJ:=aA hbj;have hzj:=hbj.size;clear hfp hbj;by_cases hff:f<firsts.length
     ·obtain⟨j,rfl⟩:∃j,gk=j+1:=⟨gk - 1,by omega⟩
      have c1:=(HNr.out.below HBJ.out hg2z) f hff;have hxs:=uG HLT.out hff;have HL:Hid (bW firsts f=((firsts.getD f 0:Nat):Int)):=rfl;rw[HL.out]at c1;have hst:= @sY Q firsts s f j hfj;have HBW:Hid (Below w.heap.size w wr):=HB.out.trans (jV HBJ.out (bC hzr));generalize firsts.getD f 0=x at*;have hcl:=Mg cg n K cap yb zb ns tk nx x s wr hn HNS.out (by omega) hsn ((HC.out.below HBW.out (aR _)).raise HBW.out.size);rw[EQ.out]at hcl;have hd2:decide ((f:Int)<(firsts.length:Int))=true:=by simp;omega
      have hfI:(0:Int)<=(f:Int)/\(f:Int)<(firsts.length:Int):=by omega
      cases hq:Q x s with
      | true=>
       rw[hq]at hcl hst;rw[if_pos rfl]at hst;have HE:Hid (aX Q firsts s firsts.length=f):=HFP.out.trans hst;clear hst hq;go_wp2_with fail;refine hcl.mono ?_;rintro e w3 ⟨rfl,hb3⟩;have HB3:=aA hb3;clear hb3;go_wp2;go_meet
       case rel=>exact⟨by rw[HE.out],HBJ.out.trans (jV HB3.out hzj)⟩
      | false=>
       rw[hq]at hcl hst;rw[if_neg (by decide)]at hst;have HE:Hid (aX Q firsts s firsts.length=aX Q firsts s j):=HFP.out.trans hst;clear hst hq;go_wp2_with fail;refine hcl.mono ?_;rintro e w3 ⟨rfl,hb3⟩;have HB3:=aA hb3;clear hb3;go_wp2;go_roundg j
       case measure=>omega
       case rel=>exact⟨f+1,by go_num,by omega,HBJ.out.trans (jV HB3.out hzj),HE.out⟩
     ·have e:gk=0:=by omega
      subst e;have hd2:decide ((f:Int)<(firsts.length:Int))=false:=by simp;omega
      have HE:Hid (aX Q firsts s firsts.length=f):=HFP.out.trans (by rw[aX];omega);go_wp2;go_meet
      case rel=>exact⟨by rw[HE.out],HBJ.out⟩
   case rest=>
    obtain⟨rfl,hbq⟩:=hcut;have HO1q:Hid (wc.ownsRow w.heap.size 3 1 (.slice (some ⟨w.heap.size,0,none⟩) fin.length K) fin.length (jD fin)):=rB HO1'.out hbq (aR _);have HO2q:Hid (wc.ownsRow (w.heap.size+1) 3 1 (.slice (some ⟨g2,0,none⟩) firsts.length c2) firsts.length (jD firsts)):=rB HO2'.out hbq (aR _);have HBq:Hid (Below w.heap.size w wc):=HB.out.trans (jV hbq (bC hzr));have hzq:w.heap.size<wc.heap.size:=aO hzr hbq.size;have hst:oK Q (d+1) s fin firsts=if aX Q firsts s firsts.length=firsts.length then oK Q d (s+1) (fin++ [firsts.length]) (firsts++ [s])else oK Q d (s+1) (fin++ [aX Q firsts s firsts.length]) firsts:=rfl;have hfle:=mS Q firsts s firsts.length;clear HO1' HO2' HB HNr hbq;generalize wc=wq at*;generalize aX Q firsts s firsts.length=fp at*;by_cases hfe:fp=firsts.length
    ·rw[if_pos hfe]at hst;have hd2:((fp:Int)==(firsts.length:Int))=true:=by rw[hfe];simp
     have hgb:=(HO2q.out.lt g2 rfl).1;have HE:Hid (gB K Q=oK Q d (s+1) (fin++ [fp]) (firsts++ [s])):=by unfold Hid;rw[hfe];exact HQ.out.trans hst
     clear hst hfe;go_wp2_with (first | (at_builtin;refine aF wq rfl (.tmp 38) (.tmp 40) 59 rfl (w.heap.size+1) 3 (.int .i64 0) 1 8 Tryz.underlying59 Tryz.infoInt rfl (by decide) (by decide) (.slice (some ⟨g2,0,none⟩) firsts.length c2) firsts.length (jD firsts) [.int .i64 (s:Int)] _ rfl HO2q.out _ rfl rfl rfl (by simp[bS]) (by omega) (by omega) ?_;intro g4 cap4 w4 hown4 hgrow4 hat4 hlt4;have HK4:=aA ((HO1q.out.alloc _).kept hgrow4 (.inr (fun e=>absurd (show w.heap.size=g2 by simpa[bT]using e) (by omega))));have HB4:Hid (Below w.heap.size w w4):=(HBq.out.alloc (bC hzq) _).grown hgrow4 (bM (bC hzq) (by simp)) (fun k hk=>bM (Nat.le_succ _) (HO2q.out.lt k hk).1);have HO4:=aA hown4;clear hown4 hgrow4 hat4) | (at_builtin;refine eI w4 rfl (.tmp 42) (.tmp 44) 59 rfl w.heap.size 3 (.int .i64 0) 1 8 Tryz.underlying59 Tryz.infoInt w.heap.size fin.length K (jD fin) [.int .i64 (fp:Int)] _ rfl HK4.out _ rfl rfl rfl (by simp[bS]) (by have:=HFL.out;omega) ?_;intro w6 hown6 hgrow6));go_roundg d
     case measure=>omega
     case rel=>
      have hz4:=(HK4.out.lt _ rfl).2;refine⟨fin++ [fp],firsts++ [s],s+1,g4,cap4,by simp,by simp,by go_num,by omega,by have:=HFL.out;simp;omega,by simp;omega,fun x hx=> ?_,HE.out,by rw[lR,aT];exact hown6, ?_, ?_⟩
      ·rcases bK.1 hx with h | h
       ·have:=HLT.out x h;omega
       ·rw[bD]at h;omega
      ·rw[lR,aT];exact(HO4.out.alloc _).kept hgrow6 (.inr (by have:=(HO4.out.lt g4 rfl).1;simp[bT];omega))
      ·exact(HB4.out.alloc (bC hz4) _).grown hgrow6 (bM (bC hz4) (by simp)) (fun k hk=>by injection hk;omega)
    ·rw[if_neg hfe]at hst;have HE:Hid (gB K Q=oK Q d (s+1) (fin++ [fp]) firsts):=HQ.out.trans hst;have hd2:((fp:Int)==(firsts.length:Int))=false:=by rw[beq_eq_false_iff_ne];omega
     clear hst hfe;go_wp2_with (first | (at_builtin;refine eI wq rfl (.tmp 42) (.tmp 44) 59 rfl w.heap.size 3 (.int .i64 0) 1 8 Tryz.underlying59 Tryz.infoInt w.heap.size fin.length K (jD fin) [.int .i64 (fp:Int)] _ rfl HO1q.out _ rfl rfl rfl (by simp[bS]) (by have:=HFL.out;omega) ?_;intro w6 hown6 hgrow6));go_roundg d
     case measure=>omega
     case rel=>
      refine⟨fin++ [fp],firsts,s+1,g2,c2,by simp,rfl,by go_num,by omega,by have:=HFL.out;simp;omega,by omega,fun x hx=>by have:=HLT.out x hx;omega,HE.out,by rw[lR,aT];exact hown6, ?_, ?_⟩
      ·exact(HO2q.out.alloc _).kept hgrow6 (.inr (by have:=(HO2q.out.lt g2 rfl).1;simp[bT];omega))
      ·exact(HBq.out.alloc (bC hzq) _).grown hgrow6 (bM (bC hzq) (by simp)) (fun k hk=>by injection hk;omega)
  ·have e:gk=0:=by omega
   subst e;have hd1:decide ((s:Int)<(K:Int))=false:=by simp;omega
   have HE:Hid (gB K Q=(fin,firsts)):=HQ.out;go_wp2;go_ret2;refine⟨w.heap.size,K,g2,c2, ?_, ?_, ?_, ?_, ?_,aR _, ?_,HB.out⟩
   ·rw[EQ.out,HE.out];rfl
   ·rw[EQ.out,HE.out];exact NIn.of_row HO1'.out
   ·rw[EQ.out,HE.out];exact NIn.of_row HO2'.out
   ·exact hzr
   ·exact(HO2'.out.lt _ rfl).2
   ·have:=(HO2'.out.lt g2 rfl).1;omega
end Go.Proofs.YtgjgjgihceijnaaGreat
namespace Go.Proofs.YtgjgjgihceijnaaGreat
open Go.RowKit Go.Stn
theorem Mn (x:Int)(w:World)(hx:x= -1\/(0<=x/\x<=255)):
  Calls Tryz.prog 42 #[.int .i64 x] w fun e w'=>e= .returned (.int .u8 ((ldB x:Nat):Int))/\w'=w:=by
 go_enter Tryz.func42,Tryz.ntmps42;rcases hx with rfl | ⟨h0,h1⟩
 ·go_wp2;go_ret;exact⟨rfl,rfl⟩
 ·have hd:(x== -1)=false:=by rw[beq_eq_false_iff_ne];omega
  have HE:Hid (((ldB x:Nat):Int)=x):=by unfold Hid ldB;rw[if_neg (by omega)];omega
  go_wp2;go_ret;exact⟨by rw[HE.out];simp;try omega,rfl⟩
end Go.Proofs.YtgjgjgihceijnaaGreat
namespace Go.Stn
end Go.Stn
namespace Go.Proofs.YtgjgjgihceijnaaGreat
open Go.RowKit Go.Stn
theorem Tryz.infoByte:(Tryz.prog.info? 5).map (fun i=>(i.zero,i.size,i.bytes))=some (some (.int .u8 0),1,1):=by kernel_rfl
theorem Jn (x:Int)(w:World):Calls Tryz.prog 9 #[.int .i64 x] w fun e w'=>e= .returned (.int .i64 x)/\w'=w:=by
 go_enter Tryz.func9,Tryz.ntmps9;go_wp2;go_ret;exact⟨rfl,rfl⟩
end Go.Proofs.YtgjgjgihceijnaaGreat
namespace Go.Stn
open Go.RowKit
theorem A8 {P:Program}(w:World){ops:Array Oper}{rest:List Oper}{o:Oper}{a:Act}{Q:Exit->Act->World->Prop}(hgd:o.guard=none)(s x:Operand)(t:TypeId)
  (ho:o.op= .call {callee:= .builtin .append,args:= #[s,x],argTypes:= #[t,t]})
  (base:Nat) (e:TypeId) (z:Value) (size bytes:Nat) (ht:P.underlying t=some (.slice e)) (hinfo:(P.info? e).map (fun i=>(i.zero,i.size,i.bytes))=some (some z,size,bytes))
  (hzs:z.cells.size=size) (hsz:0<size) (hby:bytes<=1000)
  (v:Value) (n:Nat) (xs:List Value) (cs:List Value) (e':TypeId) (hs:a.eval s=v) (hown:w.ownsRow base e size v n xs)
  (B:Nat) (hB:w.heap.size=B) (hx:a.eval x= .slice (some ⟨B,0,none⟩) 2 2) (hl:cs.length=2*size) (h1:∀u∈cs,u.oneCell'=true)
  (hn:n<=1000000000) (hbase:base<=w.heap.size)
  (h:∀g cap w',w'.ownsRow base e size (.slice (some ⟨g,0,none⟩) (n+2) cap) (n+2) (xs++cs)->(w.alloc (.cells cs.toArray e')).grownBy w' v.ownBlock->(v.ownBlock=some g\/g=w.heap.size+1)->g<w'.heap.size->
   wpList P ops Q rest (a.put o.dst (.slice (some ⟨g,0,none⟩) (n+2) cap)) w'):wpList P ops Q (o::rest) a (w.alloc (.cells cs.toArray e')):=by
 subst hB;obtain⟨i,hi,hz,hsize,hb⟩:=info_parts hinfo;refine wpList_append_lies _ hgd s x t ho base e i z size bytes ht hi hz hsize hb hzs hsz v n xs hs (hown.alloc _) ⟨w.heap.size,0,none⟩ 2 2 cs hx (by omega) ?_ h1 (by omega) (by unfold maxLen;omega) ?_ (by simp;omega) (w.heap.size+1) (by simp) h
 ·have:=World.news_of_block (w:=w.alloc (.cells cs.toArray e')) (B:=w.heap.size) (cs:=cs.toArray) (t:=e') (fr:=(0,0)) (heap_alloc_new w _);simpa using this
 ·have:=Nat.mul_le_mul (show n+2<=1000000002 by omega) hby;omega
def iH (l:List UInt8):List Value:=l.map (fun b=> .int .u8 (b.toNat:Int))
theorem xL {n:Nat}(h:n<256):(((aL n).toNat:Nat):Int)=(n:Int):=by
 rw[UInt8.toNat_ofNat'];omega
theorem Hg (l:List UInt8){n:Nat}(h:n<256):iH l++ [.int .u8 (n:Int)]=iH (l++ [aL n]):=by
 unfold iH;rw[cN,bN,cF,xL h]
theorem Bo (l:List UInt8){n m:Nat}(h:n<256)(hm:m<256):iH l++ [.int .u8 (n:Int),.int .u8 (m:Int)]=iH (l++ [aL n,aL m]):=by
 unfold iH;rw[cN,bN,bN,cF,xL h,xL hm]
def flr:Nat->(Nat->List UInt8)->List UInt8
 | 0,_=>[]
 | k+1,f=>flr k f++f k
theorem iC (k:Nat)(f:Nat->List UInt8):flr (k+1) f=flr k f++f k:=rfl
end Go.Stn
namespace Go.Proofs.YtgjgjgihceijnaaGreat
open Go.RowKit Go.Stn
structure WI (w2 w:World)(g cap:Nat)(acc:List UInt8):Prop where
 bl:Below w2.heap.size w2 w
 rw:w.ownsRow w2.heap.size 5 1 (.slice (some ⟨g,0,none⟩) acc.length cap) acc.length (iH acc)
variable {w2 w w4:World} {g cap g4 cap4:Nat} {acc:List UInt8}
theorem WI.alloc (h:WI w2 w g cap acc)(o:Obj):WI w2 (w.alloc o) g cap acc:=⟨h.bl.alloc h.bl.size o,h.rw.alloc o⟩
theorem WI.below {w':World}(h:WI w2 w g cap acc)(hb:Below w.heap.size w w'):WI w2 w' g cap acc:=⟨h.bl.trans (jV hb h.bl.size),rB h.rw hb (aR _)⟩
theorem WI.grow (h:WI w2 w g cap acc){o:Obj}(hgrow:(w.alloc o).grownBy w4 (some g)):Below w2.heap.size w2 w4:=
 (h.bl.alloc h.bl.size _).grown hgrow (bM h.bl.size (by simp)) (fun k hk=>by injection hk with e;have:=(h.rw.lt g rfl).1;omega)
theorem WI.app (h:WI w2 w g cap acc){o:Obj}{n:Nat}(hn:n<256)(hown:w4.ownsRow w2.heap.size 5 1 (.slice (some ⟨g4,0,none⟩) (acc.length+1) cap4) (acc.length+1) (iH acc++ [.int .u8 (n:Int)]))(hgrow:(w.alloc o).grownBy w4 (some g)):
  WI w2 w4 g4 cap4 (acc++ [aL n]):=⟨h.grow hgrow,by rw[←Hg acc hn,aT];exact hown⟩
theorem WI.app2 (h:WI w2 w g cap acc){o:Obj}{n m:Nat}(hn:n<256)(hm:m<256)(hown:w4.ownsRow w2.heap.size 5 1 (.slice (some ⟨g4,0,none⟩) (acc.length+2) cap4) (acc.length+2) (iH acc++ [.int .u8 (n:Int),.int .u8 (m:Int)]))(hgrow:(w.alloc o).grownBy w4 (some g)):
  WI w2 w4 g4 cap4 (acc++ [aL n,aL m]):=⟨h.grow hgrow,by rw[←Bo acc hn hm,aT];exact hown⟩
theorem WI.new (w1:World){m:Nat}(hm:m<256):WI w1 (w1.alloc (.cells #[.int .u8 83,.int .u8 84,.int .u8 1,.int .u8 (m:Int)] 5)) w1.heap.size 4 [aL 83,aL 84,aL 1,aL m]:=
 ⟨(cO _ _).alloc (aR _) _,rfl,.inr ⟨w1.heap.size,4, #[.int .u8 83,.int .u8 84,.int .u8 1,.int .u8 (m:Int)],rfl,aR _,heap_alloc_new w1 _,aR _,by unfold maxLen;omega,rfl,by
   unfold iH;simp only[bN,cF];rw[xL hm]
   rfl⟩⟩
theorem WI.text (h:WI w2 w g cap acc):(convert 116 9 (.slice (some ⟨g,0,none⟩) acc.length cap)).run Tryz.prog w= .ok (.string ⟨acc.toArray⟩) w:=
 run_convert_bytes_back w 116 9 5 ⟨g,0,none⟩ cap acc Tryz.underlying116 Tryz.underlying5 Tryz.underlying9 (fun j hj=>h.rw.cells rfl j _ (by unfold iH;rw[List.getElem?_map,List.getElem?_eq_getElem hj];rfl))
end Go.Proofs.YtgjgjgihceijnaaGreat
namespace Go.Proofs.YtgjgjgihceijnaaGreat
open Go.RowKit Go.Stn
theorem Tryz.runSizeInt (w:World):(sizeOf 3).run Tryz.prog w= .ok 1 w:=by kernel_rfl
theorem Tryz.runAggInt (w:World):(isAgg 3).run Tryz.prog w= .ok false w:=by kernel_rfl
theorem Tryz.runIndexA (A:Array Value)(v:Value)(j:Nat)(hj:j<256)(hc:A[j]? =some v)(w:World):(Instr.index 47 (.agg A) (.int .i64 (j:Int))).run Tryz.prog w= .ok v w:=by
 have h1:(0:Int)<=(j:Int)/\(j:Int)<((256:Nat):Int):=by omega
 unfold Instr.index part;simp only[asIntOf,Sem.run_bind,Sem.run_pure,Result.andThen_ok,run_underlying Tryz.underlying47,if_pos h1,Tryz.runSizeInt,Tryz.runAggInt];simp[hc,Sem.run_pure]
theorem Tryz.wpIndexA {ops:Array Oper}{rest:List Oper}{o:Oper}{a:Act}{w:World}{Q:Exit->Act->World->Prop}(hg:o.guard=none)(x y:Operand)(ho:o.op= .index 47 x y)(A:Array Value)(v:Value)(j:Nat)(hj:j<256)(hc:A[j]? =some v)
  (hx:a.eval x= .agg A) (hy:a.eval y= .int .i64 (j:Int)) (h:wpList Tryz.prog ops Q rest (a.put o.dst v) w):wpList Tryz.prog ops Q (o::rest) a w:=by
 refine wpList_plain hg fun K hK=> ?_
 have hr:=Tryz.runIndexA A v j hj hc w;unfold Oper.wp execOp;simp only[ho,hx,hy,Sem.run_bind,hr,Result.andThen_ok];exact hK _ _ h
theorem Tryz.wpText {ops:Array Oper}{rest:List Oper}{o:Oper}{a:Act}{w2 w:World}{g cap:Nat}{acc:List UInt8}{Q:Exit->Act->World->Prop}(hg:o.guard=none)(x:Operand)(ho:o.op= .convert 116 9 x)
  (hw:WI w2 w g cap acc) (hx:a.eval x= .slice (some ⟨g,0,none⟩) acc.length cap) (h:wpList Tryz.prog ops Q rest (a.put o.dst (.string ⟨acc.toArray⟩)) w):wpList Tryz.prog ops Q (o::rest) a w:=by
 refine wpList_plain hg fun K hK=> ?_
 have hr:=hw.text;unfold Oper.wp execOp;simp only[ho,hx,Sem.run_bind,hr,Result.andThen_ok];exact hK _ _ h
end Go.Proofs.YtgjgjgihceijnaaGreat
namespace Go.Stn
theorem vY (q:Nat->Nat->Bool):∀(d s:Nat) (fin firsts:List Nat),fin.length=s->firsts.length<=s->(∀x∈firsts,x<s)->(∀x∈fin,x<firsts.length)->(0<s->0<firsts.length)->
  (oK q d s fin firsts).1.length=s+d/\(oK q d s fin firsts).2.length<=s+d/\(∀x∈(oK q d s fin firsts).2,x<s+d)/\(∀x∈(oK q d s fin firsts).1,x<(oK q d s fin firsts).2.length)/\(0<s+d->0<(oK q d s fin firsts).2.length)
 | 0,s,fin,firsts,h1,h2,h3,h4,h5=>⟨h1,h2,h3,h4,h5⟩
 | d+1,s,fin,firsts,h1,h2,h3,h4,h5=>by
  rw[oK];have e:s+(d+1)=(s+1)+d:=by omega
  rw[e];by_cases hq:aX q firsts s firsts.length=firsts.length
  ·rw[if_pos hq];refine vY q d (s+1) _ _ (by simp[h1]) (by simp;omega) (fun x hx=> ?_) (fun x hx=> ?_) (fun _=>by simp)
   ·rcases bK.1 hx with h | h
    ·have:=h3 x h;omega
    ·rw[bD]at h;omega
   ·rw[aT];rcases bK.1 hx with h | h
    ·have:=h4 x h;simp;omega
    ·rw[bD]at h;simp;omega
  ·rw[if_neg hq];have hle:=mS q firsts s firsts.length;refine vY q d (s+1) _ _ (by simp[h1]) (by omega) (fun x hx=>by have:=h3 x hx;omega) (fun x hx=> ?_) (fun _=>by omega);rcases bK.1 hx with h | h
   ·exact h4 x h
   ·rw[bD]at h;omega
theorem vK (q:Nat->Nat->Bool)(K:Nat):(gB K q).1.length=K/\(gB K q).2.length<=K/\(∀x∈(gB K q).2,x<K)/\(∀x∈(gB K q).1,x<(gB K q).2.length)/\(0<K->0<(gB K q).2.length):=by
 have:=vY q K 0 [] [] rfl (aR _) (fun x hx=>absurd hx bO) (fun x hx=>absurd hx bO) (fun h=>absurd h (Nat.lt_irrefl _));simpa[gB]using this
def mR (rules:List ((Nat->Bool)×Int×Int))(k:Nat):Nat:=(rules.map (fun x=>x.2.1.toNat)).getD k 0
def stB (tk:Nat->Nat->Nat)(nx:Nat->Nat->Nat->Int)(fi:List Nat)(c s:Nat):List UInt8:= [aL (tk c s)]++flr fi.length (fun i=>[aL (ldB (nx c s (fi.getD i 0)))])
def mI (rules:List ((Nat->Bool)×Int×Int)):List UInt8:= [aL 83,aL 84,aL 1,aL rules.length]
def wrL (rules:List ((Nat->Bool)×Int×Int))(n K:Nat)(ofs ns:Nat->Nat)(tk:Nat->Nat->Nat)(nx:Nat->Nat->Nat->Int):List UInt8:=
 mI rules++flr rules.length (fun k=>[aL (mR rules k)])
 ++ [aL n,aL ((gB K (fQ ns nx n)).2.length - 1)]++flr 256 (fun b=>[aL ((gB K (fQ ns nx n)).1.getD (ofs b) 0)])
 ++flr n (fun c=>[aL (ns c)]++flr (ns c) (stB tk nx (gB K (fQ ns nx n)).2 c))
end Go.Stn
