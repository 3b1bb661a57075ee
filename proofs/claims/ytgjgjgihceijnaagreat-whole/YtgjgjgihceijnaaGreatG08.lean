import Derived.Test.YtgjgjgihceijnaaGreatG04
import Derived.Test.YtgjgjgihceijnaaGreatG07
import Derived.Test.YtgjgjgihceijnaaGreatG02
open List renaming getD_eq_getElem?_getD->aL,getElem?_eq_getElem->bC,replicate->bK,length_append->bM,getElem?_replicate->cL,map_append->cN,range->cO
open Nat renaming le_of_lt->aO,le_refl->aR,le_trans->aT,lt_of_lt_of_le->bS,le_succ->cP
open Go.Value renaming oneCell'->bD,ownBlock->bN,int->cF,cells->cR
open Classical renaming choose_spec->bO,choose->bT
set_option maxRecDepth 100000
set_option maxHeartbeats 8000000
namespace Go.Stn
theorem uG {l:List Nat}{n:Nat}(h:∀x∈l,x<n){i:Nat}(hi:i<l.length):l.getD i 0<n:=by
 rw[aL,bC hi];exact h _ (List.getElem_mem hi)
theorem sY {q:Nat->Nat->Bool}{l:List Nat}{s f d:Nat}(hd:f+(d+1)=l.length):aX q l s (d+1)=if q (l.getD f 0) s=true then f else aX q l s d:=by
 rw[aX,show l.length - (d+1)=f by omega]
end Go.Stn
namespace Go.Proofs.YtgjgjgihceijnaaGreat
open Go.RowKit Go.Stn
theorem uV {w:World}{base base':Nat}{e:TypeId}{size:Nat}{g n cap:Nat}{xs:List Value}(h:w.ownsRow base e size (.slice (some ⟨g,0,none⟩) n cap) n xs)(hb:base'<=g):w.ownsRow base' e size (.slice (some ⟨g,0,none⟩) n cap) n xs:=by
 refine⟨h.1, ?_⟩;rcases h.2 with hn | ⟨g',cap',cur,hv,hbg,rest⟩
 ·exact .inl hn
 ·cases hv
  exact .inr ⟨g,cap,cur,rfl,hb,rest⟩
def Ka (w:World)(a b:List Nat)(e:Ending)(w':World):Prop:=
 ∃g1 c1 g2 c2,e= .returned (.tuple #[.slice (some ⟨g1,0,none⟩) a.length c1,.slice (some ⟨g2,0,none⟩) b.length c2])/\NIn w' g1 a.length (bW a)/\NIn w' g2 b.length (bW b)/\g1<w'.heap.size/\g2<w'.heap.size/\w.heap.size<=g1/\w.heap.size<=g2/\Below w.heap.size w w'
theorem Kv (pt:Nat->Int)(g n cap K pg pcap:Nat)(zb tk:Nat->Nat)(nx:Nat->Nat->Int)(w:World)(hn:n<=2000)(hK:K<=300)
  (hr:∀i k,i<n->k<K->nx i k= -1\/(0<=nx i k/\nx i k<n)) (hS:SIn w w.heap.size g n K zb tk nx) (hP:NIn w pg n pt) (hpg:pg<w.heap.size):
  Calls Tryz.prog 72 #[.slice (some ⟨g,0,none⟩) n cap,.slice (some ⟨pg,0,none⟩) n pcap] w fun e w'=>Ka w (eD n (bP pt tk nx K)).1 (eD n (bP pt tk nx K)).2 e w':=by
 obtain⟨i0,hi0,hz0,hz1,hz2⟩:=info_parts Tryz.infoInt;have HI:Hid (Tryz.prog.info? 3=some i0/\i0.zero=some (.int .i64 0)/\i0.size=1/\i0.bytes=8):=⟨hi0,hz0,hz1,hz2⟩
 clear hi0 hz0 hz1 hz2;have HS:=aA hS;have HP:=aA hP;have HR:=aA hr;clear hS hP hr;go_enter Tryz.func72,Tryz.ntmps72;go_wp2_with (first | (at_make;refine wpList_make_own w rfl _ _ 59 rfl w.heap.size 3 i0 (.int .i64 0) 1 Tryz.underlying59 HI.out.1 HI.out.2.1 HI.out.2.2.1 .i64 .i64 _ n rfl rfl rfl (by rw[HI.out.2.2.2];omega) (by unfold maxLen;omega) (aR _) ?_;intro w1 hown1 hg1));obtain⟨Q,EQ⟩:∃Q,bP pt tk nx K=Q:=⟨_,rfl⟩
 replace EQ:=aA EQ;have HB1:Hid (Below w.heap.size w w1):=⟨hg1.os,hg1.tape,hg1.output,hg1.size,fun k hk=>hg1.block k hk (by simp)⟩
 have hz1:w.heap.size<w1.heap.size:=by have:=(hown1.lt w.heap.size rfl).2;omega
 have HO1:=aA (hown1.alloc (.cells #[] 3));have HB2:=aA (HB1.out.alloc (aO hz1) (.cells #[] 3));have HE2:Hid ((w1.alloc (.cells #[] 3)).ownsRow (w.heap.size+1) 3 1 (.slice (some ⟨w1.heap.size,0,none⟩) 0 0) 0 []):=uV (vD w1 3) hz1;clear hown1 hg1 HB1;generalize w1.alloc (.cells #[] 3)=w2 at*;generalize w1.heap.size=g20 at*
 go_loopg [6,7,16] n (fun gk fv sv iv wr=>∃(fin firsts:List Nat) (s g2 c2:Nat),fv= .slice (some ⟨w.heap.size,0,none⟩) fin.length n/\sv= .slice (some ⟨g2,0,none⟩) firsts.length c2/\iv= .int .i64 (s:Int)/\s+gk=n/\fin.length=s/\firsts.length<=100/\
  (∀x∈firsts,x<s)/\eD n Q=dL Q gk s fin firsts/\wr.ownsRow w.heap.size 3 1 (.slice (some ⟨w.heap.size,0,none⟩) fin.length n) fin.length (jD fin)/\
  wr.ownsRow (w.heap.size+1) 3 1 (.slice (some ⟨g2,0,none⟩) firsts.length c2) firsts.length (jD firsts)/\Below w.heap.size w wr)
 case atStart=>exact⟨[],[],0,g20,0,rfl,rfl,rfl,by omega,rfl,by simp,fun x hx=>absurd hx (List.not_mem_nil),rfl,HO1.out,HE2.out,HB2.out⟩
 case round=>
  obtain⟨fin,firsts,s,g2,c2,rfl,rfl,rfl,hsg,hfl,hf100,hlt,heq,ho1,ho2,hb⟩:=hrel;have HQ:=aA heq;have HO1':=aA ho1;have HO2':=aA ho2;have HB:=aA hb;have HLT:=aA hlt;have HFL:=aA hfl;clear heq ho1 ho2 hb hlt hfl HO1 HE2 HB2;have hzr:w.heap.size<wr.heap.size:=(HO1'.out.lt _ rfl).2;by_cases hsn:s<n
  ·obtain⟨d,rfl⟩:∃d,gk=d+1:=⟨gk - 1,by omega⟩
   have hd1:decide ((s:Int)<(n:Int))=true:=by simp;omega
   have HSr:=aA (HS.out.below HB.out (aR _));have HPr:=aA (HP.out.below HB.out hpg);have HNr:=aA (NIn.of_row HO2'.out);go_upto_block 2 with fail
   go_cut [9] from 17 to 51 (fun fv wc=>∃q,fv= .int .i64 ((aX Q firsts s firsts.length:Nat):Int)/\wc=wr.drewN q)
   case first=>
    go_wp2_with fail
    go_loopg [9] firsts.length (fun gj fv wj=>∃(f q:Nat),fv= .int .i64 (f:Int)/\f+gj=firsts.length/\wj=wr.drewN q/\aX Q firsts s firsts.length=aX Q firsts s gj)
    case atStart=>exact⟨0,0,rfl,by omega,rfl,rfl⟩
    case round=>
     obtain⟨f,q,rfl,hfj,rfl,hfp⟩:=hrel;have HFP:=aA hfp;clear hfp;by_cases hff:f<firsts.length
     ·obtain⟨j,rfl⟩:∃j,gk=j+1:=⟨gk - 1,by omega⟩
      have c1:=HNr.out f hff;have hxs:=uG HLT.out hff;have HL:Hid (bW firsts f=((firsts.getD f 0:Nat):Int)):=rfl;rw[HL.out]at c1;have hst:= @sY Q firsts s f j hfj;generalize firsts.getD f 0=x at*;have hcl:=Fm pt g n cap K w.heap.size pg pcap zb tk nx x s (wr.drewN q) (by omega) hsn hK HR.out (HSr.out.drewN q) HPr.out;rw[EQ.out]at hcl;have hd2:decide ((f:Int)<(firsts.length:Int))=true:=by simp;omega
      have hfI:(0:Int)<=(f:Int)/\(f:Int)<(firsts.length:Int):=by omega
      cases hq:Q x s with
      | true=>
       rw[hq]at hcl hst;rw[if_pos rfl]at hst;have HE:Hid (aX Q firsts s firsts.length=f):=HFP.out.trans hst;clear hst hq;go_wp2_with fail;refine hcl.mono ?_;rintro e w3 ⟨rfl,q',rfl⟩;go_wp2;go_meet
       case rel=>exact⟨q+q',by rw[HE.out],rfl⟩
      | false=>
       rw[hq]at hcl hst;rw[if_neg (by decide)]at hst;have HE:Hid (aX Q firsts s firsts.length=aX Q firsts s j):=HFP.out.trans hst;clear hst hq;go_wp2_with fail;refine hcl.mono ?_;rintro e w3 ⟨rfl,q',rfl⟩;go_wp2;go_roundg j
       case measure=>omega
       case rel=>exact⟨f+1,q+q',by go_num,by omega,rfl,HE.out⟩
     ·have e:gk=0:=by omega
      subst e;have hd2:decide ((f:Int)<(firsts.length:Int))=false:=by simp;omega
      have HE:Hid (aX Q firsts s firsts.length=f):=HFP.out.trans (by rw[aX];omega);go_wp2;go_meet
      case rel=>exact⟨q,by rw[HE.out],rfl⟩
   case rest=>
    obtain⟨q,rfl,rfl⟩:=hcut;have HO1q:Hid ((wr.drewN q).ownsRow w.heap.size 3 1 (.slice (some ⟨w.heap.size,0,none⟩) fin.length n) fin.length (jD fin)):=HO1'.out;have HO2q:Hid ((wr.drewN q).ownsRow (w.heap.size+1) 3 1 (.slice (some ⟨g2,0,none⟩) firsts.length c2) firsts.length (jD firsts)):=HO2'.out;have HBq:Hid (Below w.heap.size w (wr.drewN q)):=⟨HB.out.os,HB.out.tape,HB.out.output,HB.out.size,HB.out.block⟩
    have hzq:w.heap.size<(wr.drewN q).heap.size:=hzr;have hst:dL Q (d+1) s fin firsts=if aX Q firsts s firsts.length=firsts.length then
     (if 100<firsts.length+1 then(fin,firsts++ [s])else dL Q d (s+1) (fin++ [firsts.length]) (firsts++ [s]))else dL Q d (s+1) (fin++ [aX Q firsts s firsts.length]) firsts:=rfl
    have hfle:=mS Q firsts s firsts.length;clear HO1' HO2' HB HSr HPr HNr;generalize wr.drewN q=wq at*;generalize aX Q firsts s firsts.length=fp at*;by_cases hfe:fp=firsts.length
    ·rw[if_pos hfe]at hst;have hd2:((fp:Int)==(firsts.length:Int))=true:=by rw[hfe];simp
     have hgb:=(HO2q.out.lt g2 rfl).1;by_cases h100:100<firsts.length+1
     ·rw[if_pos h100]at hst;have HE:Hid (eD n Q=(fin,firsts++ [s])):=HQ.out.trans hst;have hd3:decide ((100:Int)<((firsts.length+1:Nat):Int))=true:=by simp;omega
      have hd3':decide ((100:Int)<(firsts.length:Int)+1)=true:=by simp;omega
      clear hst hfe;go_wp2_with (first | (at_builtin;refine aF wq rfl (.tmp 40) (.tmp 42) 59 rfl (w.heap.size+1) 3 (.int .i64 0) 1 8 Tryz.underlying59 Tryz.infoInt rfl (by decide) (by decide) (.slice (some ⟨g2,0,none⟩) firsts.length c2) firsts.length (jD firsts) [.int .i64 (s:Int)] _ rfl HO2q.out _ rfl rfl rfl (by simp[bD]) (by omega) (by omega) ?_;intro g4 cap4 w4 hown4 hgrow4 hat4 hlt4;have HK4:=aA ((HO1q.out.alloc _).kept hgrow4 (.inr (fun e=>absurd (show w.heap.size=g2 by simpa[bN]using e) (by omega))));have HB4:Hid (Below w.heap.size w w4):=(HBq.out.alloc (aO hzq) _).grown hgrow4 (aT (aO hzq) (by simp)) (fun k hk=>aT (cP _) (HO2q.out.lt k hk).1);have HO4:=aA hown4;clear hown4 hgrow4 hat4));go_ret2;refine⟨w.heap.size,n,g4,cap4, ?_, ?_, ?_, ?_,hlt4,aR _, ?_,HB4.out⟩
      ·rw[EQ.out,HE.out];simp
      ·rw[EQ.out,HE.out];exact NIn.of_row HK4.out
      ·rw[EQ.out,HE.out];refine NIn.of_row (base:=w.heap.size+1) (e:=3) (cap:=cap4) ?_;rw[lR,bM];exact HO4.out
      ·exact(HK4.out.lt _ rfl).2
      ·have:=(HO4.out.lt g4 rfl).1;omega
     ·rw[if_neg h100]at hst;have HE:Hid (eD n Q=dL Q d (s+1) (fin++ [fp]) (firsts++ [s])):=by unfold Hid;rw[hfe];exact HQ.out.trans hst
      have hd3:decide ((100:Int)<((firsts.length+1:Nat):Int))=false:=by simp;omega
      have hd3':decide ((100:Int)<(firsts.length:Int)+1)=false:=by simp;omega
      clear hst hfe;go_wp2_with (first | (at_builtin;refine aF wq rfl (.tmp 40) (.tmp 42) 59 rfl (w.heap.size+1) 3 (.int .i64 0) 1 8 Tryz.underlying59 Tryz.infoInt rfl (by decide) (by decide) (.slice (some ⟨g2,0,none⟩) firsts.length c2) firsts.length (jD firsts) [.int .i64 (s:Int)] _ rfl HO2q.out _ rfl rfl rfl (by simp[bD]) (by omega) (by omega) ?_;intro g4 cap4 w4 hown4 hgrow4 hat4 hlt4;have HK4:=aA ((HO1q.out.alloc _).kept hgrow4 (.inr (fun e=>absurd (show w.heap.size=g2 by simpa[bN]using e) (by omega))));have HB4:Hid (Below w.heap.size w w4):=(HBq.out.alloc (aO hzq) _).grown hgrow4 (aT (aO hzq) (by simp)) (fun k hk=>aT (cP _) (HO2q.out.lt k hk).1);have HO4:=aA hown4;clear hown4 hgrow4 hat4) | (at_builtin;refine eI w4 rfl (.tmp 47) (.tmp 49) 59 rfl w.heap.size 3 (.int .i64 0) 1 8 Tryz.underlying59 Tryz.infoInt w.heap.size fin.length n (jD fin) [.int .i64 (fp:Int)] _ rfl HK4.out _ rfl rfl rfl (by simp[bD]) (by have:=HFL.out;omega) ?_;intro w6 hown6 hgrow6));go_roundg d
      case measure=>omega
      case rel=>
       have hz4:=(HK4.out.lt _ rfl).2;refine⟨fin++ [fp],firsts++ [s],s+1,g4,cap4,by simp,by simp,by go_num,by omega,by have:=HFL.out;simp;omega,by simp;omega,fun x hx=> ?_,HE.out,by rw[lR,bM];exact hown6, ?_, ?_⟩
       ·rcases List.mem_append.1 hx with h | h
        ·have:=HLT.out x h;omega
        ·rw[List.mem_singleton]at h;omega
       ·rw[lR,bM];exact(HO4.out.alloc _).kept hgrow6 (.inr (by have:=(HO4.out.lt g4 rfl).1;simp[bN];omega))
       ·exact(HB4.out.alloc (aO hz4) _).grown hgrow6 (aT (aO hz4) (by simp)) (fun k hk=>by injection hk;omega)
    ·rw[if_neg hfe]at hst;have HE:Hid (eD n Q=dL Q d (s+1) (fin++ [fp]) firsts):=HQ.out.trans hst;have hd2:((fp:Int)==(firsts.length:Int))=false:=by rw[beq_eq_false_iff_ne];omega
     have hd3:decide ((100:Int)<(firsts.length:Int))=false:=by simp;omega
     clear hst hfe;go_wp2_with (first | (at_builtin;refine eI wq rfl (.tmp 47) (.tmp 49) 59 rfl w.heap.size 3 (.int .i64 0) 1 8 Tryz.underlying59 Tryz.infoInt w.heap.size fin.length n (jD fin) [.int .i64 (fp:Int)] _ rfl HO1q.out _ rfl rfl rfl (by simp[bD]) (by have:=HFL.out;omega) ?_;intro w6 hown6 hgrow6));go_roundg d
     case measure=>omega
     case rel=>
      refine⟨fin++ [fp],firsts,s+1,g2,c2,by simp,rfl,by go_num,by omega,by have:=HFL.out;simp;omega,hf100,fun x hx=>by have:=HLT.out x hx;omega,HE.out,by rw[lR,bM];exact hown6, ?_, ?_⟩
      ·exact(HO2q.out.alloc _).kept hgrow6 (.inr (by have:=(HO2q.out.lt g2 rfl).1;simp[bN];omega))
      ·exact(HBq.out.alloc (aO hzq) _).grown hgrow6 (aT (aO hzq) (by simp)) (fun k hk=>by injection hk;omega)
  ·have e:gk=0:=by omega
   subst e;have hd1:decide ((s:Int)<(n:Int))=false:=by simp;omega
   have HE:Hid (eD n Q=(fin,firsts)):=HQ.out;go_wp2;go_ret2;refine⟨w.heap.size,n,g2,c2, ?_, ?_, ?_, ?_, ?_,aR _, ?_,HB.out⟩
   ·rw[EQ.out,HE.out];rfl
   ·rw[EQ.out,HE.out];exact NIn.of_row HO1'.out
   ·rw[EQ.out,HE.out];exact NIn.of_row HO2'.out
   ·exact hzr
   ·exact(HO2'.out.lt _ rfl).2
   ·have:=(HO2'.out.lt g2 rfl).1;omega
end Go.Proofs.YtgjgjgihceijnaaGreat
namespace Go.Proofs.YtgjgjgihceijnaaGreat
open Go.RowKit Go.Stn
def S0 (w:World)(K:Nat)(l:List (Nat×List Int))(e:Ending)(w':World):Prop:=
 ∃(B:Nat) (zs:List ((Nat×List Int)×Nat)),w.heap.size<=B/\e= .returned (.slice (some ⟨B,0,none⟩) zs.length zs.length)/\zs.map (·.1)=l/\
   w'.ownsRow B 121 2 (.slice (some ⟨B,0,none⟩) zs.length zs.length) zs.length (stC K zs)/\jO w' (B+1) zs/\Below w.heap.size w w'
theorem Ec (fin firsts:List Nat)(g n cap K pg pcap fg fcap:Nat)(zb tk:Nat->Nat)(nx:Nat->Nat->Int)(w:World)(hK:K<=300)(hf:firsts.length<=100)(hfn:∀x∈firsts,x<n)
  (hr:∀i k,i<n->k<K->nx i k= -1\/(0<=nx i k/\nx i k<n)) (hS:SIn w w.heap.size g n K zb tk nx) (hP:NIn w pg n (bW fin)) (hpg:pg<w.heap.size) (hF:NIn w fg firsts.length (bW firsts)) (hfg:fg<w.heap.size):
  Calls Tryz.prog 73 #[.slice (some ⟨g,0,none⟩) n cap,.slice (some ⟨pg,0,none⟩) n pcap,.slice (some ⟨fg,0,none⟩) firsts.length fcap] w fun e w'=>S0 w K (iD tk nx K fin firsts) e w':=by
 obtain⟨i0,hi0,hz0,hz1,hz2⟩:=info_parts Tryz.infoInt;have HI:Hid (Tryz.prog.info? 3=some i0/\i0.zero=some (.int .i64 0)/\i0.size=1/\i0.bytes=8):=⟨hi0,hz0,hz1,hz2⟩
 clear hi0 hz0 hz1 hz2;obtain⟨i1,hi0,hz0,hz1,hz2⟩:=info_parts Tryz.infoState;have HI1:Hid (Tryz.prog.info? 121=some i1/\i1.zero=some (.agg #[.int .i64 0,.slice none 0 0])/\i1.size=2/\i1.bytes=32):=⟨hi0,hz0,hz1,hz2⟩
 clear hi0 hz0 hz1 hz2;have HS:=aA hS;have HP:=aA hP;have HR:=aA hr;have HF:=aA hF;have HFN:=aA hfn;clear hS hP hr hF hfn;obtain⟨m,hm⟩:∃m,firsts.length=m:=⟨_,rfl⟩
 rw[hm]at hf ⊢;replace hm:=aA hm;go_enter Tryz.func73,Tryz.ntmps73;go_wp2_with (first | (at_make;refine wpList_make_own w rfl _ _ 110 rfl w.heap.size 121 i1 _ 2 Tryz.underlying110 HI1.out.1 HI1.out.2.1 HI1.out.2.2.1 .i64 .i64 _ m rfl rfl rfl (by rw[HI1.out.2.2.2];omega) (by unfold maxLen;omega) (aR _) ?_;intro w2 hown hg));have HB2:Hid (Below w.heap.size w w2):=⟨hg.os,hg.tape,hg.output,hg.size,fun k hk=>hg.block k hk (by simp)⟩
 have HO2:=aA hown;clear hown hg;obtain⟨B,hBw⟩:∃B,w.heap.size=B:=⟨_,rfl⟩
 rw[hBw]at HB2 HO2 hpg hfg HS ⊢
 go_loopg [7,19] m (fun gk x iv wr=>∃(zs:List ((Nat×List Int)×Nat)) (k:Nat),x= .slice (some ⟨B,0,none⟩) k m/\iv= .int .i64 (k:Int)/\zs.length=k/\k+gk=m/\zs.map (·.1)=iD tk nx K fin (firsts.take k)/\
  wr.ownsRow B 121 2 (.slice (some ⟨B,0,none⟩) k m) k (stC K zs)/\jO wr (B+1) zs/\Below B w wr)
 case atStart=>exact⟨[],0,rfl,rfl,rfl,by omega,by simp[iD],HO2.out,jO.nil _ _,HB2.out⟩
 case round=>
  obtain⟨zs,k,rfl,rfl,hzl,hkm,heq,hown,hrow,hb⟩:=hrel;have HQ:=aA heq;have HO:=aA hown;have HW:=aA hrow;have HB:=aA hb;have HX:=aA hzl;have hsz:B<wr.heap.size:=(hown.lt B rfl).2;clear heq hown hb hzl hrow HO2 HB2;by_cases hlt:k<m
  ·obtain⟨g',rfl⟩:∃g',gk=g'+1:=⟨gk - 1,by omega⟩
   have hkf:k<firsts.length:=by rw[hm.out];exact hlt
   have c1:=(HF.out.below HB.out hfg) k hkf;have hsn:=uG HFN.out hkf;have HTK:Hid (iD tk nx K fin (firsts.take (k+1))=iD tk nx K fin (firsts.take k)++ [(tk (firsts.getD k 0),(cO K).map fun g=>jF (bW fin) (nx (firsts.getD k 0) g))]):=by
    unfold Hid iD;rw[List.take_add_one,bC hkf,cN,aL,bC hkf];rfl
   have HL:Hid (bW firsts k=((firsts.getD k 0:Nat):Int)):=rfl;rw[HL.out]at c1;generalize firsts.getD k 0=s at*;have HSr:=aA (HS.out.below HB.out (by omega));have HPr:=aA (HP.out.below HB.out hpg);have c2:=HSr.out.nxc s hsn;have hd1:decide ((k:Int)<(m:Int))=true:=by simp;omega
   have hkI:(0:Int)<=(k:Int)/\(k:Int)<(m:Int):=by omega
   have hsI:(0:Int)<=(s:Int)/\(s:Int)<(n:Int):=by omega
   have hgw:g<wr.heap.size:=by have:=HSr.out.bg;omega
   clear hkf;go_wp2_with (first | (at_make;refine wpList_make_own wr rfl _ _ 59 rfl wr.heap.size 3 i0 (.int .i64 0) 1 Tryz.underlying59 HI.out.1 HI.out.2.1 HI.out.2.2.1 .i64 .i64 _ K rfl rfl rfl (by rw[HI.out.2.2.2];omega) (by unfold maxLen;omega) (aR _) ?_;intro w4 hown4 hg4;have HB4:Hid (Below wr.heap.size wr w4):=(⟨hg4.os,hg4.tape,hg4.output,hg4.size,fun k hk=>hg4.block k hk (by simp)⟩:Below wr.heap.size wr w4);have c3:=(HB4.out.cell (p:=⟨g,s*2+1,none⟩) hgw).trans c2;clear c1 c2));have HO4:=aA hown4;have HS4:=aA (HSr.out.below HB4.out (by omega));have HP4:=aA (HPr.out.below HB4.out (by omega));clear hown4 hg4;obtain⟨C,hC⟩:∃C,wr.heap.size=C:=⟨_,rfl⟩
   rw[hC]at HB4 HO4 hsz ⊢;clear c3
   go_loopg [10,36] K (fun gj x iv wj=>∃(xs:List Int) (j:Nat),x= .slice (some ⟨C,0,none⟩) j K/\iv= .int .i64 (j:Int)/\j+gj=K/\xs=(cO j).map (fun g=>jF (bW fin) (nx s g))/\
    wj.ownsRow C 3 1 (.slice (some ⟨C,0,none⟩) j K) j (jP xs)/\Below C wr wj)
   case atStart=>exact⟨[],0,rfl,rfl,by omega,rfl,HO4.out,HB4.out⟩
   case round=>
    obtain⟨xs,j,rfl,rfl,hjk,hxs,hown,hb⟩:=hrel;have HXS:=aA hxs;have HOJ:=aA hown;have HBJ:=aA hb;have HXS:=aA hxs;have HOJ:=aA hown;have HBJ:=aA hb;have hszj:C<wr.heap.size:=(hown.lt C rfl).2;have HSj:=aA (HSr.out.below hb (by omega));have HPj:=aA (HPr.out.below hb (by omega));clear hxs hown hb HO4 HB4;by_cases hltj:j<K
    ·obtain⟨j',rfl⟩:∃j',gk=j'+1:=⟨gk - 1,by omega⟩
     have c5:=HSj.out.ldc s j hsn hltj;have hc:=tB (bW fin) pg n pcap (nx s j) wr (HR.out s j hsn hltj) HPj.out;have HXN:Hid ((cO (j+1)).map (fun g=>jF (bW fin) (nx s g))=xs++ [jF (bW fin) (nx s j)]):=by unfold Hid;rw[List.range_succ,cN,HXS.out];rfl
     generalize nx s j=x1 at*;generalize jF (bW fin) x1=y at*;have hdj:decide ((j:Int)<(K:Int))=true:=by simp;omega
     have hjI:(0:Int)<=(j:Int)/\(j:Int)<(K:Int):=by omega
     go_wp2_with fail;refine hc.mono ?_;rintro e w5 ⟨rfl,rfl⟩;go_wp2_with (first | (at_builtin;refine eI w5 rfl _ _ 59 rfl C 3 (.int .i64 0) 1 8 Tryz.underlying59 Tryz.infoInt C j K (jP xs) [.int .i64 y] _ rfl HOJ.out _ rfl rfl rfl (by simp[bD]) (by omega) ?_;intro w6 hown6 hgrow6));go_roundg j'
     case measure=>omega
     case rel=>
      exact⟨xs++ [y],j+1,rfl,by go_num,by omega,HXN.out.symm,by rw[nB];exact hown6,(HBJ.out.alloc (aO hszj) _).grown hgrow6 (aT (aO hszj) (by simp)) (fun q hq=>by injection hq;omega)⟩
    ·have e:j=K:=by omega
     subst e;have e2:gk=0:=by omega
     subst e2;have hdj:decide ((j:Int)<(j:Int))=false:=by simp
     have c5:=HSj.out.tkc s hsn;have HOB:Hid (wr.ownsRow B 121 2 (.slice (some ⟨B,0,none⟩) k m) k (stC j zs)):=aA (cV HO.out (fun q hq=>HBJ.out.block q (by simp[bN]at hq;omega)));have HWB:Hid (jO wr (B+1) zs):=HW.out.below HBJ.out (by omega);have HBB:Hid (Below B w wr):=HB.out.trans (HBJ.out.mono (by omega));have HRW:=aA (lQ HOJ.out);generalize tk s=tks at*;go_wp2_with (first | (at_builtin;refine eI wr rfl _ _ 110 rfl B 121 (.agg #[.int .i64 0,.slice none 0 0]) 2 32 Tryz.underlying110 Tryz.infoState B k m (stC j zs) [.int .i64 (tks:Int),.slice (some ⟨C,0,none⟩) j j] _ rfl HOB.out _ rfl rfl rfl (by simp[bD]) (by omega) ?_;intro w6 hown6 hgrow6));go_roundg g'
     case measure=>omega
     case rel=>
      have hsz7:=hgrow6.size;simp at hsz7;refine⟨zs++ [((tks,xs),C)],k+1,rfl,by go_num,by simp[HX.out],by omega, ?_,by rw[Cb];exact hown6, ?_, ?_⟩
      ·rw[cN,HTK.out,HQ.out,←HXS.out];rfl
      ·refine((HWB.out.grown (dG (World.grownBy.refl _ (some B)) _) (by omega)).snoc ⟨by omega,by simp;omega, ?_⟩).grown hgrow6 (by omega);exact aC HRW.out (Below.heap_alloc wr _ C hszj)
      ·exact(HBB.out.alloc (by omega) _).grown hgrow6 (aT (aO (show B<wr.heap.size by omega)) (by simp)) (fun q hq=>by injection hq;omega)
  ·have e:k=m:=by omega
   subst e;have hd1:decide ((k:Int)<(k:Int))=false:=by simp
   go_wp2;go_ret;have hx:=HX.out;subst hx;refine⟨B,zs,by rw[hBw];exact aR _,rfl, ?_,HO.out,HW.out,by rw[hBw];exact HB.out⟩;rw[HQ.out,←hm.out,List.take_length]
end Go.Proofs.YtgjgjgihceijnaaGreat
namespace Go.Stn
theorem Ib:∀(k m:Nat) (f:Nat->Nat),(∀i,i<m->f i<k)->(∀i j,i<m->j<m->f i=f j->i=j)->m<=k:=by
 intro k
 induction k with
 | zero=>
  intro m f h _;cases m with
  | zero=>exact aR _
  | succ n=>have:=h 0 (by omega);omega
 | succ k ih=>
  intro m f h hi
  cases m with
  | zero=>omega
  | succ n=>
   have:=ih n (fun j=>if f j=k then f n else f j) (fun i hin=>by
    by_cases e:f i=k
    ·simp only[if_pos e];have h1:=h n (by omega);have h2:f n≠k:=fun h3=>by have:=hi i n (by omega) (by omega) (by omega);omega
     omega
    ·simp only[if_neg e];have:=h i (by omega);omega) (fun i j hin hjn he=>by
    by_cases e1:f i=k<;> by_cases e2:f j=k
    ·exact hi i j (by omega) (by omega) (by omega)
    ·simp only[if_pos e1,if_neg e2]at he;have:=hi n j (by omega) (by omega) he;omega
    ·simp only[if_neg e1,if_pos e2]at he;have:=hi i n (by omega) (by omega) he;omega
    ·simp only[if_neg e1,if_neg e2]at he;exact hi i j (by omega) (by omega) he)
   omega
theorem aW {l:List Nat}{i x:Nat}(h:i<l.length):(l++ [x]).getD i 0=l.getD i 0:=by
 rw[aL,aL,List.getElem?_append_left h]
theorem cC {l:List Nat}{x:Nat}:(l++ [x]).getD l.length 0=x:=by
 rw[aL,List.getElem?_append_right (aR _)];simp
theorem Cu {q:Nat->Nat->Bool}{l:List Nat}{s:Nat}:∀d,d<=l.length->aX q l s d<l.length->q (l.getD (aX q l s d) 0) s=true:=by
 intro d
 induction d with
 | zero=>intro _ h;rw[aX]at h;omega
 | succ k ih=>
  intro hd h;rw[aX]at h ⊢;split
  ·assumption
  ·rename_i hn;rw[if_neg hn]at h;exact ih (by omega) h
structure PI (q:Nat->Nat->Bool)(s:Nat)(fin firsts:List Nat):Prop where
 len:fin.length=s
 cl:∀x,x<s->fin.getD x 0<firsts.length/\(firsts.getD (fin.getD x 0) 0=x\/q (firsts.getD (fin.getD x 0) 0) x=true)
 rep:∀f,f<firsts.length->firsts.getD f 0<s/\fin.getD (firsts.getD f 0) 0=f
theorem S8 {q:Nat->Nat->Bool}:∀d s fin firsts,PI q s fin firsts->(dL q d s fin firsts).2.length<=100->PI q (s+d) (dL q d s fin firsts).1 (dL q d s fin firsts).2:=by
 intro d
 induction d with
 | zero=>intro s fin firsts h _;exact h
 | succ k ih=>
  intro s fin firsts h hl;rw[dL]at hl ⊢;by_cases hf:aX q firsts s firsts.length=firsts.length
  ·rw[if_pos hf]at hl ⊢;by_cases h100:100<firsts.length+1
   ·rw[if_pos h100]at hl;simp at hl;omega
   ·rw[if_neg h100]at hl ⊢;rw[show s+(k+1)=s+1+k by omega];refine ih (s+1) _ _ ⟨by simp[h.len],fun x hx=> ?_,fun f hff=> ?_⟩ hl
    ·by_cases e:x=s
     ·subst e;rw[show(fin++ [firsts.length]).getD x 0=firsts.length by have:= @cC fin firsts.length;rw[h.len]at this;exact this];refine⟨by simp,.inl cC⟩
     ·have hx':x<s:=by omega
      obtain⟨h1,h2⟩:=h.cl x hx';rw[aW (by rw[h.len];exact hx'),aW h1];exact⟨bS h1 (by simp),h2⟩
    ·simp at hff;by_cases e:f=firsts.length
     ·subst e;rw[cC];refine⟨by omega, ?_⟩;have:= @cC fin firsts.length;rw[h.len]at this;exact this
     ·have hf':f<firsts.length:=by omega
      obtain⟨h1,h2⟩:=h.rep f hf';rw[aW hf',aW (by rw[h.len];exact h1)];exact⟨by omega,h2⟩
  ·rw[if_neg hf]at hl ⊢;have hlt:aX q firsts s firsts.length<firsts.length:=by have:=mS q firsts s firsts.length;omega
   have hq:=Cu _ (aR _) hlt;rw[show s+(k+1)=s+1+k by omega];refine ih (s+1) _ _ ⟨by simp[h.len],fun x hx=> ?_,fun f hff=> ?_⟩ hl
   ·by_cases e:x=s
    ·subst e;rw[show(fin++ [aX q firsts x firsts.length]).getD x 0=aX q firsts x firsts.length by have:= @cC fin (aX q firsts x firsts.length);rw[h.len]at this;exact this];exact⟨hlt,.inr hq⟩
    ·have hx':x<s:=by omega
     obtain⟨h1,h2⟩:=h.cl x hx';rw[aW (by rw[h.len];exact hx')];exact⟨h1,h2⟩
   ·obtain⟨h1,h2⟩:=h.rep f hff;rw[aW (by rw[h.len];exact h1)];exact⟨by omega,h2⟩
theorem zL {n:Nat}{q:Nat->Nat->Bool}(h:(eD n q).2.length<=100):PI q n (eD n q).1 (eD n q).2:=by
 have:=S8 (q:=q) n 0 [] [] ⟨rfl,fun x hx=>by omega,fun f hf=>by simp at hf⟩ h;rw[Nat.zero_add]at this;exact this
def D0 (n:Nat)(parts:List Nat)(count:Nat):Prop:=parts.length=n/\∀f,f<count->∃s,s<n/\parts.getD s 0=f
theorem xZ {n:Nat}{q:Nat->Nat->Bool}(h:(eD n q).2.length<=100):D0 n (eD n q).1 (eD n q).2.length:=by
 have hp:=zL h;exact⟨hp.len,fun f hf=>⟨_,(hp.rep f hf).1,(hp.rep f hf).2⟩⟩
theorem H6 {n:Nat}{parts:List Nat}{count:Nat}{q:Nat->Nat->Bool}(h0:D0 n parts count)(hq:∀s t,q s t=true->parts.getD s 0=parts.getD t 0)(h:(eD n q).2.length<=100):count<=(eD n q).2.length:=by
 have hp:=zL h;refine Ib _ _ (fun f=>if hf:f<count then(eD n q).1.getD (bT (h0.2 f hf)) 0 else 0) (fun i hi=> ?_) (fun i j hi hj he=> ?_)
 ·simp only[dif_pos hi];exact(hp.cl _ (bO (h0.2 i hi)).1).1
 ·simp only[dif_pos hi,dif_pos hj]at he;have si:=bO (h0.2 i hi);have sj:=bO (h0.2 j hj);generalize bT (h0.2 i hi)=a at*;generalize bT (h0.2 j hj)=b at*;have ha:=(hp.cl a si.1).2;have hb:=(hp.cl b sj.1).2;rw[←he]at hb;have e1:parts.getD ((eD n q).2.getD ((eD n q).1.getD a 0) 0) 0=parts.getD a 0:=by
   rcases ha with h1 | h1
   ·rw[h1]
   ·exact hq _ _ h1
  have e2:parts.getD ((eD n q).2.getD ((eD n q).1.getD a 0) 0) 0=parts.getD b 0:=by
   rcases hb with h1 | h1
   ·rw[h1]
   ·exact hq _ _ h1
  rw[←si.2,←sj.2,←e1,←e2]
theorem tM {parts:List Nat}{tk:Nat->Nat}{nx:Nat->Nat->Int}{K s t:Nat}(h:bP (bW parts) tk nx K s t=true):parts.getD s 0=parts.getD t 0:=by
 unfold bP at h;simp only[Bool.and_eq_true,decide_eq_true_eq]at h;have:=h.1;unfold bW at this;omega
def rV (n:Nat)(tk:Nat->Nat)(nx:Nat->Nat->Int)(K:Nat):Option (List (Nat×List Int)):=
 (mJ n tk nx K 102 (bK n 0) 0).map fun x=>iD tk nx K x.1 x.2
end Go.Stn
namespace Go.Proofs.YtgjgjgihceijnaaGreat
open Go.RowKit Go.Stn
theorem tY (n:Nat):(madeCells (cF .i64 0).cells (n*1)).toList=(bK n (0:Nat)).map (fun(_:Nat)=>cF .i64 0):=by
 have h:∀i:Nat,(cF .i64 0).cells[i % (cF .i64 0).cells.size]! =cF .i64 0:=by
  intro i;have e:i % (cF .i64 0).cells.size=0:=by simp[cR,Nat.mod_one]
  rw[e];simp[cR]
 unfold madeCells;rw[Nat.mul_one];simp only[h,Array.toList_map,Array.toList_range];rw[List.map_replicate,List.eq_replicate_iff];exact⟨by simp,by intro b hb;simp at hb;exact hb.2.symm⟩
theorem Ji {w:World}{top top' g n K:Nat}{zb tk:Nat->Nat}{nx:Nat->Nat->Int}(h:SIn w top g n K zb tk nx)(ht:top<=top'):SIn w top' g n K zb tk nx:=
 ⟨h.tkc,h.nxc,h.ldc,bS h.bg ht,fun s hs=>bS (h.bz s hs) ht⟩
def Sj (w:World)(K:Nat):Option (List (Nat×List Int))->Ending->World->Prop
 | none,e,w'=>e= .returned (.tuple #[.slice none 0 0,.bool false])/\Below w.heap.size w w'
 | some l,e,w'=>∃v,S0 w K l (.returned v) w'/\e= .returned (.tuple #[v,.bool true])
theorem Ii (g n cap K:Nat)(zb tk:Nat->Nat)(nx:Nat->Nat->Int)(w:World)(hn:n<=2000)(hK:K<=300)
  (hr:∀i k,i<n->k<K->nx i k= -1\/(0<=nx i k/\nx i k<n)) (hS:SIn w w.heap.size g n K zb tk nx):
  Calls Tryz.prog 40 #[.slice (some ⟨g,0,none⟩) n cap] w fun e w'=>Sj w K (rV n tk nx K) e w':=by
 obtain⟨i0,hi0,hz0,hz1,hz2⟩:=info_parts Tryz.infoInt;have HI:Hid (Tryz.prog.info? 3=some i0/\i0.zero=some (.int .i64 0)/\i0.size=1/\i0.bytes=8):=⟨hi0,hz0,hz1,hz2⟩
 clear hi0 hz0 hz1 hz2;have HS:=aA hS;have HR:=aA hr;clear hS hr;go_enter Tryz.func40,Tryz.ntmps40;go_wp2_with (first | (at_make;refine wpList_make_full w rfl _ _ 59 rfl w.heap.size 3 i0 (.int .i64 0) 1 Tryz.underlying59 HI.out.1 HI.out.2.1 HI.out.2.2.1 .i64 .i64 _ _ n rfl rfl rfl rfl (by rw[HI.out.2.2.2];omega) (by unfold maxLen;omega) (aR _) ?_;intro w1 hown hg));have HN1:Hid (NIn w1 w.heap.size n (bW (bK n 0))):=fun i hi=>by
  have h1:=hown.cells rfl i (.int .i64 0) (by
   rw[tY,List.getElem?_map,cL,if_pos hi];rfl)
  have e:bW (bK n 0) i=0:=by unfold bW;rw[aL,cL,if_pos hi];rfl
  rw[e];by_cases hj:i=0
  ·subst hj;simpa[Addr.add]using h1
  ·simpa[Addr.add,hj]using h1
 have HB1:Hid (Below w.heap.size w w1):=⟨hg.os,hg.tape,hg.output,hg.size,fun k hk=>hg.block k hk (by simp)⟩
 have hz1:w.heap.size<w1.heap.size:=(hown.lt w.heap.size rfl).2;clear hown hg;obtain⟨MP,EMP⟩:∃m,mJ n tk nx K 102 (bK n 0) 0=m:=⟨_,rfl⟩
 have HMP:Hid (rV n tk nx K=MP.map fun x=>iD tk nx K x.1 x.2):=by unfold Hid rV;rw[EMP]
 replace EMP:=aA EMP
 go_loopg [4,5] 102 (fun gk pv cv wr=>∃(parts:List Nat) (count pg pcap:Nat),pv= .slice (some ⟨pg,0,none⟩) n pcap/\cv= .int .i64 (count:Int)/\count<=100/\102<=count+gk/\D0 n parts count/\MP=mJ n tk nx K gk parts count/\
  NIn wr pg n (bW parts)/\pg<wr.heap.size/\Below w.heap.size w wr)
 case atStart=>exact⟨bK n 0,0,w.heap.size,n,rfl,rfl,by omega,by omega,⟨by simp,fun f hf=>by omega⟩,EMP.out.symm,HN1.out,hz1,HB1.out⟩
 case round=>
  obtain⟨parts,count,pg,pcap,rfl,rfl,hc,hcg,hok,heq,hnp,hpg,hb⟩:=hrel;have HQ:=aA heq;have HN:=aA hnp;have HB:=aA hb;have HOK:=aA hok;clear heq hnp hb hok HN1 HB1;obtain⟨f,rfl⟩:∃f,gk=f+1:=⟨gk - 1,by omega⟩
  have HSr:=aA (HS.out.below HB.out (aR _));have hpc:=Kv (bW parts) g n cap K pg pcap zb tk nx wr hn hK HR.out (Ji HSr.out HB.out.size) HN.out hpg;have hpl:=R7 (bP (bW parts) tk nx K) n 0 [] [];have hgrow:=fun h=>H6 (q:=bP (bW parts) tk nx K) HOK.out (fun s t=>tM) h
  have hnext:=fun h=> @xZ n (bP (bW parts) tk nx K) h
  have hinv:=fun h=> @zL n (bP (bW parts) tk nx K) h
  have hml:mJ n tk nx K (f+1) parts count=if 100<(eD n (bP (bW parts) tk nx K)).2.length then none
   else if(eD n (bP (bW parts) tk nx K)).2.length=count then some (eD n (bP (bW parts) tk nx K))
   else mJ n tk nx K f (eD n (bP (bW parts) tk nx K)).1 (eD n (bP (bW parts) tk nx K)).2.length:=rfl
  have HPL:Hid (dL (bP (bW parts) tk nx K) n 0 [] []=eD n (bP (bW parts) tk nx K)):=rfl;rw[HPL.out]at hpl;generalize eD n (bP (bW parts) tk nx K)=PP at*;obtain⟨fin,firsts⟩:=PP;simp only at*;have hfl:firsts.length<=2000:=by have:=hpl.1;simp at this;omega
  go_wp2_with fail;refine hpc.mono ?_;rintro e w3 ⟨g1,c1,g2,c2,rfl,hn1,hn2,hz3,hz4,hz5,hz6,hb3⟩;have HN1:=aA hn1;have HN2:=aA hn2;have HB3:=aA (HB.out.trans (hb3.mono HB.out.size));have HS3:=aA (Ji (HSr.out.below hb3 HB.out.size) (aT HB.out.size hb3.size));clear hn1 hn2 hb3 hpc hpl;by_cases h1:100<firsts.length
  ·have HE:Hid (MP=none):=by unfold Hid;rw[HQ.out,hml,if_pos h1]
   have hd1:decide ((100:Int)<(firsts.length:Int))=true:=by simp;omega
   clear hml hgrow hnext hinv;go_wp2;go_ret2;rw[HMP.out,HE.out];exact⟨rfl,HB3.out⟩
  ·have hd1:decide ((100:Int)<(firsts.length:Int))=false:=by simp;omega
   rw[if_neg h1]at hml;have hinv:=hinv (by omega);have hlen:=hinv.len;by_cases h2:firsts.length=count
   ·rw[if_pos h2]at hml;have HE:Hid (MP=some (fin,firsts)):=by unfold Hid;rw[HQ.out,hml]
    have hd2:((firsts.length:Int)==(count:Int))=true:=by rw[h2];simp
    have hfn:∀x∈firsts,x<n:=fun x hx=>by
     obtain⟨i,hi,rfl⟩:=List.mem_iff_getElem.1 hx;have:=(hinv.rep i hi).1;rw[aL,bC hi]at this;exact this
    have hnf:NIn w3 g1 n (bW fin):=by have:=HN1.out;rw[hlen]at this;exact this
    have hgc:=Ec fin firsts g n cap K g1 c1 g2 c2 zb tk nx w3 hK (by omega) hfn HR.out HS3.out hnf hz3 HN2.out hz4;rw[hlen];clear hml hgrow hnext hinv h2 hfn hnf hlen;go_wp2_with fail;refine hgc.mono ?_;rintro e w4 ⟨B,zs,q1,rfl,q3,q4,q5,q6⟩;have HQ3:=aA q3;have HQ4:=aA q4;have HQ5:=aA q5;have HQ6:=aA (HB3.out.trans (q6.mono HB3.out.size));have hq1:w.heap.size<=B:=aT HB3.out.size q1;clear q1 q3 q4 q5 q6 hgc;go_wp2;go_ret2;rw[HMP.out,HE.out];exact⟨.slice (some ⟨B,0,none⟩) zs.length zs.length,⟨B,zs,hq1,rfl,HQ3.out,HQ4.out,HQ5.out,HQ6.out⟩,rfl⟩
   ·rw[if_neg h2]at hml;have HE:Hid (MP=mJ n tk nx K f fin firsts.length):=HQ.out.trans hml;have hd2:((firsts.length:Int)==(count:Int))=false:=by rw[beq_eq_false_iff_ne];omega
    have hg2:=hgrow (by omega);have HOK2:=aA (hnext (by omega));have HNF:Hid (NIn w3 g1 n (bW fin)):=by have:=HN1.out;rw[hlen]at this;exact this
    rw[hlen];clear hml hgrow hnext hinv hlen;go_wp2;go_roundg f
    case measure=>omega
    case rel=>exact⟨fin,firsts.length,g1,c1,rfl,rfl,by omega,by omega,HOK2.out,HE.out,HNF.out,hz3,HB3.out⟩
end Go.Proofs.YtgjgjgihceijnaaGreat
