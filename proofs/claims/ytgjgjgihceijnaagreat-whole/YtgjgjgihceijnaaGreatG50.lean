import Derived.Test.YtgjgjgihceijnaaGreatG49
open Nat renaming le_refl->aL,zero_add->cF,le_trans->cL,sub_self->eS
open List renaming getElem?_eq_some_iff->aR,getElem?_eq_getElem->bC,length_append->bK,getD_eq_getElem?_getD->bM,length_singleton->bN,getElem?_append_right->bO,getElem?_append_left->bS,getElem?_replicate->bT,getElem?_map->eM
open Go.World renaming cell?_of_block->a9,cell?_alloc_at->cN
open Go.Value renaming slice->cP,oneCell'->eL,int->eR
open Go.RowKit.Below renaming refl->eN
set_option maxRecDepth 100000
set_option maxHeartbeats 8000000
namespace Go.Proofs.YtgjgjgihceijnaaGreat
open Go.RowKit Go.Stn
def D2 (N:List RN)(l0:List LfT)(n:Nat)(of:Nat->Int)(tr:Nat->Nat->Int):Prop:=
 nI n 256 (mkF of) tr/\(∀s,s<n-> -1<=of s/\of s<8)/\of 0= -1/\∀b u,eE 256 (b::u)->N6 N l0 (b::u) (cI (mkF of) tr 0 (b::u))
theorem Tt {w:World}{g i:Nat}{v:Value}(h:w.cell? ⟨g,i,none⟩=some v):g<w.heap.size:=by
 apply Classical.byContradiction;intro hn;have e:w.heap[g]? =none:=by simp;omega
 simp[World.cell?,e]at h
attribute [local go_sem ↓] Go.wp_at_zero Go.wp_at_succ
theorem Tryz.tableSize:(Tryz.prog.info? 68).map (fun i=>i.size)=some 2:=by kernel_rfl
theorem CR.poke {w:World}{O:Nat->Nat}{B rb b:Nat}{f:Nat->Int}(h:CR w O B rb f b)(hb:b<256)(t:Int):CR (w.setCell ⟨rb,b,none⟩ (.int .i64 t)) O B rb f b:=by
 have k:=h.put (f':=fun j=>if j=b then t else f j) hb (if_pos rfl) (fun j hj=>if_neg (by omega));exact⟨k.wt,fun j hj=>by rw[k.c j (by omega),if_neg (by omega)],k.a,k.fz⟩
theorem Hi {fb gN cap gR cR cond:Nat}{L:List NV}{R:List RV}{ks:List Nat}(hf:eC (nvN L) (R.map RV.n) ks)(hcond:cond<4){w:World}(h:FR fb w L gN cap)(hr:FRu fb w R gR cR){v:Value}{lw:List Nat}(hv:IL w v lw)(hlw:lw.length=256)(hlo:uX (nvN L) lw):
  Calls Tryz.prog 22 #[.pointer (some ⟨fb,0,none⟩),.int .i64 (cond:Int),v] w fun e w'=>∃(v1 v2:Value) (n:Nat) (of:Nat->Int) (tr:Nat->Nat->Int),e= .returned (.agg #[v1,v2])/\Below w.heap.size w w'/\TbV w' v1 v2 n of tr/\n<=1025/\D2 (nvN L) (gG cond 0 R) n of tr:=by
 obtain⟨a,vc,rfl,hvc,hv⟩:=hv;obtain⟨gl,ol,rfl,hgl,hcl⟩:=hv.resolve_left (fun e=>by rw[e]at hlw;simp at hlw);have HBA:Hid (Below w.heap.size w (w.alloc (.cells #[.slice none 0 0,.slice none 0 0] 68))):=(eN _ _).alloc (aL _) _;have HGR:=aA (Ht (cond:=cond) hf hcond (h.below HBA.out (aL _)) (hr.below HBA.out (aL _)) (v:= .slice (some ⟨gl,ol,none⟩) lw.length vc) (lw:=lw) ⟨_,_,rfl,hvc,.inr ⟨gl,ol,rfl,Nat.lt_of_lt_of_le hgl HBA.out.size,fun i m hm=>(HBA.out.cell (p:=⟨gl,ol+i,none⟩) hgl).trans (hcl i m hm)⟩⟩ hlw hlo);have HCL:=aA hcl;have HFP:=aA hf;have HLW:=aA hlw;have HLO:=aA hlo;have HUB:Hid (∀x,x∈gG cond 0 R->UB (nvN L) (R.map RV.n) x):=Y5;have hzA:(w.alloc (.cells #[.slice none 0 0,.slice none 0 0] 68)).heap.size=w.heap.size+1:=by simp
 have hrc0:(w.alloc (.cells #[.slice none 0 0,.slice none 0 0] 68)).cell? ⟨w.heap.size,0,none⟩=some (.slice none 0 0):=(cN _ _ _ 0 rfl).trans rfl;have hrc1:(w.alloc (.cells #[.slice none 0 0,.slice none 0 0] 68)).cell? ⟨w.heap.size,1,none⟩=some (.slice none 0 0):=(cN _ _ _ 1 rfl).trans rfl;have hrf:∀i,(w.alloc (.cells #[.slice none 0 0,.slice none 0 0] 68)).frozen? ⟨w.heap.size,i,none⟩=false:=fun i=>World.frozen?_alloc_at _ _ _ i rfl
 obtain⟨i0,hi0,hz0,hz1,hz2⟩:=info_parts Tryz.infoIntR;have HI:Hid (Tryz.prog.info? 3=some i0/\i0.zero=some (.int .i64 0)/\i0.size=1/\i0.bytes=8):=⟨hi0,hz0,hz1,hz2⟩
 rw[hlw]at HGR ⊢;clear hi0 hz0 hz1 hz2 hf h hr hlw hlo hcl hv hvc;generalize R.map RV.n=tops at*;generalize gG cond 0 R=l0 at*;go_enter Tryz.func22,Tryz.ntmps22;go_upto_region 1 with fail;generalize w.alloc (.cells #[.slice none 0 0,.slice none 0 0] 68)=W0 at*;go_upto_region 2 with fail;refine HGR.out.mono ?_;rintro e w1 ⟨gb,Ls,Of,To,rfl,hb1,hga⟩;have hfew:=hga.1.few HFP.out;have hpos:0<Ls.length:=(aR.1 hga.1.z).1;have HGI:=aA hga.1;have HAU:=aA hga.1.auto;have HOD:=aA hga.1.order;have HREP:=aA (hga.1.rep HFP.out HLW.out HLO.out);obtain⟨gO,qO,gT,qT,rw,hgv⟩:=hga.view;have HB1:Hid (Below W0.heap.size W0 w1):=⟨hb1.os,hb1.tape,hb1.output,hb1.size,hb1.block⟩
 obtain⟨of,eof⟩:∃of:Nat->Int,of=fun i=>Of.getD i 0:=⟨_,rfl⟩
 rw[←eof]at hgv;have HZO:Hid (of 0= -1):=by unfold Hid;rw[eof];simp only[bM,hga.1.zo];rfl
 have HOF:Hid (∀i,i<Ls.length-> -1<=of i/\of i<8):=by rw[eof];exact hga.1.ofs HFP.out
 have HTOK:Hid (∀b u,eE 256 (b::u)->N6 (nvN L) l0 (b::u) (cI (mkF of) To 0 (b::u))):=fun b u hl=>by
  have:=hga.1.tok HFP.out HUB.out u b 0 l0 hga.1.z hl;rw[eof];exact this
 have HGV:=aA hgv;have hz1:=HB1.out.size;generalize Ls.length=n at*;clear hga hgv hb1 eof HGR;go_upto_region 3 with fail;refine(Fb HGV.out (by omega) (fun i hi=>(HOF.out i hi).1) HAU.out).mono ?_;rintro e w2 ⟨al,rfl,hlv,halv⟩;have HLV:=aA hlv;have HALV:=aA halv;have hz2:=hlv.bl.size;have HGV2:=aA (HGV.out.below hlv.bl (aL _));have HB2:=aA (dO HB1.out hlv.bl);clear hlv halv;have hgl2:gl<w2.heap.size:=by omega
 have HCL2:Hid (∀(i m:Nat),lw[i]? =some m->w2.cell? ⟨gl,ol+i,none⟩=some (.int .i64 (m:Int))):=fun i m hm=>(HB2.out.cell (p:=⟨gl,ol+i,none⟩) (by show gl<W0.heap.size;omega)).trans ((HBA.out.cell (p:=⟨gl,ol+i,none⟩) hgl).trans (HCL.out i m hm))
 have hab:w1.heap.size<w2.heap.size:=Tt (HLV.out.ba.c 0 hpos);go_upto_region 4 with fail;refine(Co HGV2.out (by omega) (fun i hi=>(HOF.out i hi).1) HAU.out HALV.out HLV.out.ba hab HLW.out hgl2 HCL2.out (fun b k hk=>(HLO.out b k hk).1) HREP.out).mono ?_;rintro e w3 ⟨db,d,rfl,hdb,hpc,hdi⟩;have HDB:=aA hdb;have HPC:=aA hpc;have HDI:=aA hdi;have hz3:=hdb.bl.size;have HGV3:=aA (HGV2.out.below hdb.bl (aL _));have HB3:=aA (dO HB2.out hdb.bl);have HBA3:=aA (HLV.out.ba.below hdb.bl hab);have c1:=HGV3.out.c1;clear hdb hpc hdi HGV HGV2 HLV HB1 HB2 HCL2;go_upto_region 5 with(first | (at_make;refine wpList_make_full w3 rfl _ _ 59 rfl w3.heap.size 3 i0 (.int .i64 0) 1 Tryz.underlying59 HI.out.1 HI.out.2.1 HI.out.2.2.1 .i64 .i64 _ n n rfl rfl rfl rfl (by rw[HI.out.2.2.2];omega) (by unfold maxLen;omega) (aL _) ?_;intro w4 hown4 hg4))
 have hb4:Below w3.heap.size w3 w4:=⟨hg4.os,hg4.tape,hg4.output,hg4.size,fun k hk=>hg4.block k hk (by simp)⟩
 have hz4:w3.heap.size<w4.heap.size:=(hown4.lt w3.heap.size rfl).2;have HKS:Hid (KS w4 w4 w3.heap.size n (fun _=>0) 0 (.slice none 0 0) []):=KS.start hz4 (fun p hp=>⟨0,by
  have h1:=hown4.cells rfl p (.int .i64 0) (by
   rw[tY,eM,bT,if_pos hp];rfl)
  rw[iL,cF]at h1;exact h1⟩) (fun i=>lF hown4 i) _
 have HGV4:=aA (HGV3.out.below hb4 (aL _));have HB4:=aA (dO HB3.out hb4);have HBA4:=aA (HBA3.out.below hb4 (by omega));have HD4:=aA (HDB.out.da.below hb4 (aL _));have hab4:w1.heap.size<w3.heap.size:=by omega
 have hdg4:w2.heap.size<w3.heap.size:=HDB.out.da.b0;have HBD:Hid (∀k,k<w3.heap.size->k<w4.heap.size/\k≠w3.heap.size):=fun k hk=>by omega
 have HLT:Hid (gb<w3.heap.size/\gO<w3.heap.size/\gT<w3.heap.size/\(∀i,i<n->rw i<w3.heap.size)/\∀i,i<n->db i<w3.heap.size):=⟨HGV3.out.b0,HGV3.out.b1,HGV3.out.b2,HGV3.out.b3,HDB.out.da.b1⟩
 have HB34:=aA hb4;clear hown4 hg4 hb4 c1;generalize hsb:w3.heap.size=sb at*;have HSB:=aA hsb;clear hsb;generalize w1.heap.size=ab at*;generalize w2.heap.size=dg at*;go_wp2_with fail
 go_loopw [11,12] (fun y z wr=>∃(m:Nat) (state:Nat->Int) (first:List Nat),m<=n/\z= .int .i64 (m:Int)/\KS w4 wr sb n state m y first/\TI al d m state first/\first.length<=m) (fun _ z _=>n - (intOf z).toNat)
 case atStart=>exact⟨0,_,[],by omega,rfl,HKS.out,TI.start _ _ _,by simp⟩
 case round=>
  clear HKS;obtain⟨m,state,first,hm,rfl,hks,hti,hfl⟩:=hrel;have HK:=aA hks;have HT:=aA hti;have c1:wr.cell? ⟨gb,1,none⟩=some (.slice (some ⟨gO,0,none⟩) n qO):=(a9 (w:=w4) (a:=⟨gb,1,none⟩) (hks.bk gb (HBD.out gb HLT.out.1).1 (HBD.out gb HLT.out.1).2)).trans HGV4.out.c1;by_cases hlt:m<n
  ·have hmI:(0:Int)<=(m:Int)/\(m:Int)<(n:Int):=by omega
   obtain⟨x0,hx0⟩:=hks.a m hlt;have xf:=hks.fz m;have HK1:=aA (hks.put hlt (-1));have ya:wr.cell? ⟨ab,m,none⟩=some (.bool (al m)):=(a9 (w:=w4) (a:=⟨ab,m,none⟩) (hks.bk ab (HBD.out ab hab4).1 (HBD.out ab hab4).2)).trans (HBA4.out.c m hlt);have hsz:=hks.sz;obtain⟨ay,cy,ey⟩:=aK hks.ro;subst ey;clear hks hti;go_upto_region 10 with fail;have z0:=HK1.out.c m (by omega);rw[nA]at z0;have yb:(wr.setCell ⟨sb,m,none⟩ (.int .i64 (-1))).cell? ⟨ab,m,none⟩=some (.bool (al m)):=(a9 (w:=wr) (a:=⟨ab,m,none⟩) (cB wr sb m _ (HBD.out ab hab4).2)).trans ya;clear hx0 xf ya c1 HK;generalize wr.setCell ⟨sb,m,none⟩ (.int .i64 (-1))=W5 at*;by_cases hskip:0<m/\al m=false
   ·obtain⟨hm0,hal⟩:=hskip;have d0:decide ((m:Int) > (0:Int))=true:=by simp;omega
    have HTN:=aA (HT.out.skip hm0 hal);rw[hal]at yb;clear hal;go_wp2;go_roundw
    case rel=>exact⟨m+1,_,first,by omega,by go_num,HK1.out,HTN.out,by omega⟩
    case measure=>simp[intOf];omega
   ·have hlive:m=0\/al m=true:=by
     by_cases e:m=0
     ·exact .inl e
     ·right
      cases hv:al m with
      | true=>rfl
      | false=>exact absurd ⟨by omega,hv⟩ hskip
    have HLIVE:=aA hlive;have HOLD:Hid (∀(s0 f:Nat),first[s0]? =some f->d f m=false->TI al d (m+1) (G1 state m (s0:Int)) first):=fun s0 f h1 h2=>by
     have hfm:=(HT.out.fi s0 f h1).1;exact HT.out.old (by omega) (HLIVE.out.resolve_left (by omega)) h1 h2
    have HNEW:Hid ((∀(s f:Nat),first[s]? =some f->d f m=true)->TI al d (m+1) (G1 state m (first.length:Int)) (first++ [m])):=fun hh=>HT.out.new HLIVE.out (HDI.out m hlt) hh
    obtain⟨nf,enf⟩:∃nf,first.length=nf:=⟨_,rfl⟩
    have HFLT:Hid (∀(s f:Nat),first[s]? =some f->f<n):=fun s f hf=>by have:=(HT.out.fi s f hf).1;omega
    rw[enf]at HK1 hfl HNEW ⊢;have HNF:=aA enf
    go_cut [55] from 35 to 97 (fun q wc=>q= .bool false/\wc=W5)
    case first=>
     rcases hlive with e | e
     ·have d0:decide ((m:Int) > (0:Int))=false:=by simp;omega
      have e0:¬0<m:=by omega
      clear e hskip;go_wp2_with fail;go_meet
      case rel=>exact⟨rfl,rfl⟩
     ·rw[e]at yb;clear hskip e;by_cases hm0:0<m
      ·have d0:decide ((m:Int) > (0:Int))=true:=by simp;omega
       go_wp2_with fail;go_meet
       case rel=>exact⟨rfl,rfl⟩
      ·have d0:decide ((m:Int) > (0:Int))=false:=by simp;omega
       go_wp2_with fail;go_meet
       case rel=>exact⟨rfl,rfl⟩
    case rest=>
     obtain⟨rfl,rfl⟩:=hcut;clear hskip hlive yb;go_wp2_with fail
     go_loopw [13] (fun z wr2=>∃(s:Nat) (t:Int),s<=nf/\z= .int .i64 (s:Int)/\KS w4 wr2 sb n (G1 state m t) (m+1) (.slice ay nf cy) first/\Vt d first m s t/\ -1<=t/\t<2000) (fun z _=>nf - (intOf z).toNat)
     case atStart=>exact⟨0, -1,by omega,rfl,HK1.out,.inl ⟨rfl,fun s' f hs'=>by omega⟩,by omega,by omega⟩
     case round=>
      clear HK1 z0;obtain⟨s,t,hs,rfl,hks,htry,ht1,ht2⟩:=hrel;have HK2:=aA hks;have z0:=hks.c m (by omega);rw[nA]at z0;have hsz2:=hks.sz;have hxf:=hks.fz m;by_cases hsn:s<nf
      ·have dsn:decide ((s:Int)<(nf:Int))=true:=by simp;omega
       have hsI:(0:Int)<=(s:Int)/\(s:Int)<(nf:Int):=by omega
       rcases htry with⟨et,hno⟩ | hold
       ·subst et;have hx:=bC (l:=first) (i:=s) (by rw[HNF.out];exact hsn);obtain⟨f,ef⟩:∃f,first[s]'(by rw[HNF.out];exact hsn)=f:=⟨_,rfl⟩
        rw[ef]at hx;have hfn:=HFLT.out s f hx;have hfI:(0:Int)<=(f:Int)/\(f:Int)<(n:Int):=by omega
        obtain⟨g2,cap2,eg⟩:∃g2 cap2,cP ay nf cy= .slice (some ⟨g2,0,none⟩) nf cap2:=by
         rcases bZ hks.ro with e | ⟨g2,cap2,e⟩
         ·injection e with _ e3 _;omega
         ·rw[HNF.out]at e;exact⟨g2,cap2,e⟩
        injection eg with ea _ ec;subst ea ec;have y0:wr.cell? ⟨g2,s,none⟩=some (.int .i64 (f:Int)):=by
         have:=hks.ro.cells (g:=g2) rfl s _ (kI hx);rw[iL,cF]at this;exact this
        have dr:wr.cell? ⟨dg,f,none⟩=some (.slice (some ⟨db f,0,none⟩) n n):=(a9 (w:=w4) (a:=⟨dg,f,none⟩) (hks.bk dg (HBD.out dg hdg4).1 (HBD.out dg hdg4).2)).trans (HD4.out.r f hfn);have dc:wr.cell? ⟨db f,m,none⟩=some (.bool (d f m)):=(a9 (w:=w4) (a:=⟨db f,m,none⟩) (hks.bk (db f) (HBD.out _ (HLT.out.2.2.2.2 f hfn)).1 (HBD.out _ (HLT.out.2.2.2.2 f hfn)).2)).trans (HD4.out.c f m hfn hlt);have HNO:=aA hno;have HX:=aA hx;clear hno hx ef hks
        cases hdv:d f m with
        | true=>
         rw[hdv]at dc;have HTR:Hid (Vt d first m (s+1) (-1)):= .inl ⟨rfl,fun s' f' hs' hf'=>by
          by_cases e:s'=s
          ·subst e;rw[HX.out]at hf';injection hf' with hf';rw[←hf'];exact hdv
          ·exact HNO.out s' f' (by omega) hf'⟩
         clear hdv;go_wp2;go_roundw
         case rel=>exact⟨s+1, -1,by omega,by go_num,HK2.out,HTR.out,by omega,by omega⟩
         case measure=>simp[intOf];omega
        | false=>
         rw[hdv]at dc;have HTR:Hid (Vt d first m (s+1) (s:Int)):= .inr ⟨s,f,rfl,HX.out,hdv⟩;have HK3:=aA (HK2.out.again hlt (s:Int));clear hdv;go_wp2;go_roundw
         case rel=>exact⟨s+1,(s:Int),by omega,by go_num,HK3.out,HTR.out,by omega,by omega⟩
         case measure=>simp[intOf];omega
       ·obtain⟨s0,f0,e1,e2,e3⟩:=hold;subst e1;have HTN:=aA (HOLD.out s0 f0 e2 e3);have dt:decide ((s0:Int)<(0:Int))=false:=by simp
        clear e2 e3 hks;go_wp2;go_roundw
        case rel=>exact⟨m+1,_,first,by omega,by go_num,HK2.out,HTN.out,by rw[HNF.out];omega⟩
        case measure=>simp[intOf];omega
      ·have dsn:decide ((s:Int)<(nf:Int))=false:=by simp;omega
       rcases htry with⟨et,hno⟩ | hold
       ·subst et;have HTN:=aA (HNEW.out (fun s' f' hf'=>hno s' f' (by have:=(aR.1 hf').1;rw[HNF.out]at this;omega) hf'));have HK3:=aA (HK2.out.again hlt (nf:Int));have z1:=HK2.out.a m hlt;have HRO:=aA HK3.out.ro;rw[HNF.out]at HRO;clear hno hks;go_upto_region 18 with fail;generalize wr.setCell ⟨sb,m,none⟩ (.int .i64 (nf:Int))=W7 at*;have hsz7:=HK3.out.sz;go_wp2_with (first | (at_builtin;refine aF W7 rfl (.tmp 94) (.tmp 96) 59 rfl w4.heap.size 3 (.int .i64 0) 1 8 Tryz.underlying59 Tryz.infoIntR rfl (by decide) (by decide) (.slice ay nf cy) nf (dP first) [.int .i64 (m:Int)] _ rfl HRO.out _ rfl rfl rfl (by simp[eL]) (by omega) (by omega) ?_;intro g8 cap8 w8 hown8 hgrow8 hat8 hlt8;have HK8:=aA (HK3.out.app HNF.out hown8 hgrow8);clear hown8 hgrow8 hat8 hlt8));go_roundw
        case rel=>exact⟨m+1,_,first++ [m],by omega,by go_num,HK8.out,HTN.out,by rw[bK,HNF.out,bN];omega⟩
        case measure=>simp[intOf];omega
       ·obtain⟨s0,f0,e1,e2,e3⟩:=hold;subst e1;have HTN:=aA (HOLD.out s0 f0 e2 e3);have dt:decide ((s0:Int)<(0:Int))=false:=by simp
        clear e2 e3 hks;go_wp2;go_roundw
        case rel=>exact⟨m+1,_,first,by omega,by go_num,HK2.out,HTN.out,by rw[HNF.out];omega⟩
        case measure=>simp[intOf];omega
  ·have em:m=n:=by omega
   have dm:decide ((m:Int)<(n:Int))=false:=by simp;omega
   have hks2:=hks;rw[em]at hks2 hti;have HKL:=aA hks2;have HTL:=aA hti;have hbL:Below sb w3 wr:=⟨hks.os.trans HB34.out.os,hks.tape.trans HB34.out.tape,hks.output.trans HB34.out.output,by have:=HB34.out.size;have:=hks.sz;omega,fun k hk=>(hks.bk k (HBD.out k hk).1 (HBD.out k hk).2).trans (HB34.out.block k hk)⟩
   have HGVL:=aA (HGV3.out.below hbL (by rw[HSB.out];exact aL _));have HBAL:=aA (HBA3.out.below hbL hab4);have HBLW:Hid (Below W0.heap.size W0 wr):=⟨hbL.os.trans HB3.out.os,hbL.tape.trans HB3.out.tape,hbL.output.trans HB3.out.output,cL HB3.out.size (by have:=HSB.out;have:=hbL.size;omega),fun k hk=>(hbL.block k (by have:=HB3.out.size;have:=HSB.out;omega)).trans (HB3.out.block k hk)⟩
   have hszL:=hks.sz;have hsbL:sb<wr.heap.size:=by have:=hks.b;omega
   have HTM:=aA (TM.start wr);have HBT:Hid (Below wr.heap.size wr (wr.alloc (.cells #[.slice none 0 0,.slice none 0 0] 68))):=(eN _ _).alloc (aL _) _;obtain⟨ay,cy,ey⟩:=aK hks.ro;subst ey;obtain⟨nf,enf⟩:∃nf,first.length=nf:=⟨_,rfl⟩
   rw[enf]at hfl HKL ⊢;have HNF:=aA enf;have HZ:=aA (hti.z hpos);have hnf0:0<nf:=by rw[←enf];exact(aR.1 (hti.z hpos)).1
   have HFI:Hid (∀(s f:Nat),first[s]? =some f->f<n):=fun s f hf=>(hti.fi s f hf).1
   clear hks hks2 hti HK HT enf em hbL HB34 HGV3 HBA3 HGV4 HBA4 HD4 HB4;go_upto_region 20 with fail;generalize hWT:wr.alloc (.cells #[.slice none 0 0,.slice none 0 0] 68)=WT at*;generalize htb:wr.heap.size=tb at*;have HTB:=aA htb;clear hWT htb;obtain⟨WL,eWL⟩:∃WL,WL=wr:=⟨_,rfl⟩
   subst eWL;have htL:tb<=WL.heap.size:=by rw[HTB.out];exact aL _
   have HST:Hid (∀X:World,Below tb WL X->∀p,p<n->X.cell? ⟨sb,p,none⟩=some (.int .i64 (state p))):=fun X hX p hp=>(hX.cell (p:=⟨sb,p,none⟩) hsbL).trans (HKL.out.c p hp)
   have HAX:Hid (∀X:World,Below tb WL X->∀p,p<n->X.cell? ⟨ab,p,none⟩=some (.bool (al p))):=fun X hX p hp=>(hX.cell (p:=⟨ab,p,none⟩) (by show ab<tb;omega)).trans (HBAL.out.c p hp)
   have HGX:Hid (∀X:World,Below tb WL X->GV gb X n gO qO gT qT rw of To):=fun X hX=>HGVL.out.below hX (by rw[HTB.out];exact aL _)
   go_wp2_with fail
   go_loopw [15] (fun z wr3=>∃(s:Nat) (O:Nat->Nat) (vO vT:Value) (Of2:List Int) (rows2:List (Nat->Int)) (cO cT:List (List Value)),s<=nf/\z= .int .i64 (s:Int)/\TM tb tb wr3 O vO vT Of2 rows2 cO cT/\Of2.length=s/\rows2.length=s/\Hid (∀(i:Nat) (x:Int),Of2[i]? =some x->x=of (first.getD i 0))/\Hid (∀(i:Nat) (f:Nat->Int),rows2[i]? =some f->∀b,b<256->f b=kW To al state first i b)/\Below tb WL wr3/\Hid (∀k,k<tb->O k=5)) (fun z _=>nf - (intOf z).toNat)
   case atStart=>exact⟨0,_,_,_,[],[],_,_,by omega,rfl,HTM.out,rfl,rfl,aA (fun i x hx=>by simp at hx),aA (fun i f hf=>by simp at hf),HBT.out,aA (fun k hk=>by rw[if_neg (by omega),if_pos hk])⟩
   case round=>
    clear HTM HBT;obtain⟨s,O,vO,vT,Of2,rows2,cO,cT,hs,rfl,htm,hol,hrl,HOv,HRv,hbl,HO5⟩:=hrel;have HTM:=aA htm;have HBL:=aA hbl;have hz5:=hbl.size;have HOL:=aA hol;have HRL:=aA hrl;by_cases hsn:s<nf
    ·have dsn:decide ((s:Int)<(nf:Int))=true:=by simp;omega
     have hsI:(0:Int)<=(s:Int)/\(s:Int)<(nf:Int):=by omega
     have hx:=bC (l:=first) (i:=s) (by rw[HNF.out];exact hsn);obtain⟨f,ef⟩:∃f,first[s]'(by rw[HNF.out];exact hsn)=f:=⟨_,rfl⟩
     rw[ef]at hx;have hfn:=HFI.out s f hx;have hfI:(0:Int)<=(f:Int)/\(f:Int)<(n:Int):=by omega
     have hgd:first.getD s 0=f:=oT hx;have HX:=aA hx;have HGD:=aA hgd;obtain⟨g2,cap2,eg⟩:∃g2 cap2,cP ay nf cy= .slice (some ⟨g2,0,none⟩) nf cap2:=by
      rcases bZ HKL.out.ro with e | ⟨g2,cap2,e⟩
      ·injection e with _ e3 _;omega
      ·rw[HNF.out]at e;exact⟨g2,cap2,e⟩
     injection eg with ea _ ec;subst ea ec;have hg2:=(HKL.out.ro.lt g2 rfl).2;have HY:Hid (∀X:World,Below tb WL X->X.cell? ⟨g2,s,none⟩=some (.int .i64 (f:Int))):=fun X hX=>by
      have:=HKL.out.ro.cells (g:=g2) rfl s _ (kI HX.out);rw[iL,cF]at this;exact(hX.cell (p:=⟨g2,s,none⟩) (by show g2<tb;rw[←HTB.out];exact hg2)).trans this
     clear htm hbl hx hgd ef hol hrl;go_upto_region 24 with(first | (at_make;refine wpList_make_full wr rfl _ _ 59 rfl wr.heap.size 3 i0 (.int .i64 0) 1 Tryz.underlying59 HI.out.1 HI.out.2.1 HI.out.2.2.1 .i64 .i64 _ _ 256 rfl rfl rfl rfl (by rw[HI.out.2.2.2];omega) (by unfold maxLen;omega) (aL _) ?_;intro w5 hown5 hg5))
     have hb5:Below wr.heap.size wr w5:=⟨hg5.os,hg5.tape,hg5.output,hg5.size,fun k hk=>hg5.block k hk (by simp)⟩
     have hz6:wr.heap.size<w5.heap.size:=(hown5.lt wr.heap.size rfl).2;have HCR:Hid (CR w5 (fun k=>if k=wr.heap.size then 5 else O k) tb wr.heap.size (kW To al state first s) 0):=by
      refine⟨⟨if_pos rfl,hz6,by omega⟩,fun j hj=>by omega,fun j hj=>⟨0, ?_⟩,fun i=>lF hown5 i⟩;have h1:=hown5.cells rfl j (.int .i64 0) (by
       rw[tY,eM,bT,if_pos hj];rfl)
      rw[iL,cF]at h1;exact h1
     have HTM5:Hid (TM tb tb w5 (fun k=>if k=wr.heap.size then 5 else O k) vO vT Of2 rows2 cO cT):=HTM.out.keep hb5.size (fun k hk _=>⟨hb5.block k hk,if_neg (by omega)⟩) (fun k hk=>by
      have:k≠wr.heap.size:=by omega
      simp only[if_neg this];exact HTM.out.fr k (by omega))
     have HBL5:Hid (Below tb WL w5):=⟨hb5.os.trans HBL.out.os,hb5.tape.trans HBL.out.tape,hb5.output.trans HBL.out.output,cL HBL.out.size hb5.size,fun k hk=>(hb5.block k (by omega)).trans (HBL.out.block k hk)⟩
     clear hown5 hg5 hb5 HTM HBL;obtain⟨O2,eO2⟩:∃O2,O2=(fun k=>if k=wr.heap.size then 5 else O k):=⟨_,rfl⟩
     rw[←eO2]at HCR HTM5;have HO52:Hid (∀k,k<tb->O2 k=5):=fun k hk=>by rw[eO2];simp only[if_neg (show k≠wr.heap.size by omega)];exact HO5.out k hk
     clear eO2 HO5;generalize wr.heap.size=rb at*;have HFZ:Hid (∀b:Nat,kW To al state first s b=if fU al (To f b)=true then state (To f b).toNat else -1):=fun b=>by unfold kW;rw[HGD.out]
     go_wp2_with fail
     go_loopw [17] (fun z wr4=>∃b:Nat,b<=256/\z= .int .i64 (b:Int)/\TM tb tb wr4 O2 vO vT Of2 rows2 cO cT/\CR wr4 O2 tb rb (kW To al state first s) b/\Below tb WL wr4) (fun z _=>256 - (intOf z).toNat)
     case atStart=>exact⟨0,by omega,rfl,HTM5.out,HCR.out,HBL5.out⟩
     case round=>
      clear HTM5 HCR HBL5;obtain⟨b,hb,rfl,htm,hcr,hbl⟩:=hrel;have HTM:=aA htm;have HCR:=aA hcr;have HBL:=aA hbl;have hrb5:=hcr.wt.1;have hrbl:=hcr.wt.2.2;by_cases hb256:b<256
      ·have hbI:(0:Int)<=(b:Int)/\(b:Int)<(256:Int):=by omega
       have hd1:decide ((b:Int)<(256:Int))=true:=by simp;omega
       obtain⟨old,hold⟩:=hcr.a b hb256;have fz:=hcr.fz b;have HCN:Hid (∀t:Int,kW To al state first s b=t->CR (wr.setCell ⟨rb,b,none⟩ (.int .i64 t)) O2 tb rb (kW To al state first s) (b+1)):=fun t ht=>HCR.out.put hb256 ht (fun _ _=>rfl)
       have HTN:Hid (∀t:Int,TM tb tb (wr.setCell ⟨rb,b,none⟩ (.int .i64 t)) O2 vO vT Of2 rows2 cO cT):=fun t=>HTM.out.set hrb5 b _
       have HBN:Hid (∀t:Int,Below tb WL (wr.setCell ⟨rb,b,none⟩ (.int .i64 t))):=fun t=>HBL.out.setCell (p:=⟨rb,b,none⟩) hrbl _
       clear htm hcr hbl;go_upto_region 28 with fail;have HT7:Hid (TM tb tb (wr.setCell ⟨rb,b,none⟩ (.int .i64 (-1))).drew O2 vO vT Of2 rows2 cO cT):=(HTN.out (-1)).below ⟨rfl,rfl,rfl,aL _,fun _ _=>rfl⟩;have HC7:Hid (CR (wr.setCell ⟨rb,b,none⟩ (.int .i64 (-1))).drew O2 tb rb (kW To al state first s) b):=(HCR.out.poke hb256 (-1)).keep (aL _) ⟨rfl,rfl⟩;have HB7:Hid (Below tb WL (wr.setCell ⟨rb,b,none⟩ (.int .i64 (-1))).drew):=⟨(HBN.out (-1)).os,(HBN.out (-1)).tape,(HBN.out (-1)).output,(HBN.out (-1)).size,(HBN.out (-1)).block⟩
       have HC8:Hid (kW To al state first s b= -1->CR (wr.setCell ⟨rb,b,none⟩ (.int .i64 (-1))).drew O2 tb rb (kW To al state first s) (b+1)):=fun e=>(HCN.out (-1) e).keep (aL _) ⟨rfl,rfl⟩
       have gv:=HGX.out _ (HBN.out (-1));have c2:=gv.c2;have t0:=gv.t f hfn;have r0:=gv.r f b hfn hb256;have y0:=HY.out _ (HBN.out (-1));have HRG:=aA (HAU.out.rng f b hfn hb256);have HFB:=aA (HFZ.out b);clear hold fz HCN HTN HBN HTM HCR HBL gv;generalize wr.setCell ⟨rb,b,none⟩ (.int .i64 (-1))=W6 at*;obtain⟨tt,ett⟩:∃t,To f b=t:=⟨_,rfl⟩
       rw[ett]at r0 HRG HFB;clear ett;go_big_region
       all_goals
        rcases HRG.out with e1 | e1
        ·subst e1;have HCF:=aA (HC8.out (HFB.out.trans (if_neg (by unfold fU;simp))));clear c2 t0 r0 y0;go_wp2;go_roundw
         case rel=>exact⟨b+1,by omega,by go_num,HT7.out,HCF.out,HB7.out⟩
         case measure=>simp[intOf];omega
        ·obtain⟨ti,eti⟩:∃t:Nat,tt=(t:Int):=⟨tt.toNat,by omega⟩
         subst eti;have htn:ti<n:=by omega
         have htI:(0:Int)<=(ti:Int)/\(ti:Int)<(n:Int):=by omega
         have hge:decide ((0:Int)<=(ti:Int))=true:=by simp
         have ya:W6.cell? ⟨ab,ti,none⟩=some (.bool (al ti)):=HAX.out _ HB7.out ti htn;have ys:W6.cell? ⟨sb,ti,none⟩=some (.int .i64 (state ti)):=HST.out _ HB7.out ti htn;have HFB2:Hid (kW To al state first s b=if al ti=true then state ti else -1):=by
          unfold Hid;rw[HFB.out];have:fU al (ti:Int)=al ti:=by unfold fU;simp
          rw[this,Int.toNat_natCast]
         clear c2 t0 r0 y0
         cases hav:al ti with
         | true=>
          rw[hav]at ya HFB2;obtain⟨old,hold⟩:=HC7.out.a b hb256;have hold2:W6.cell? ⟨rb,b,none⟩=some (.int .i64 old):=hold;have fz2:W6.frozen? ⟨rb,b,none⟩=false:=HC7.out.fz b;have HCF:=aA (HC7.out.put hb256 (t:=state ti) (f':=kW To al state first s) (HFB2.out.trans (if_pos rfl)) (fun _ _=>rfl));have HTF:=aA (HT7.out.set hrb5 b (.int .i64 (state ti)));have HBF:Hid (Below tb WL (W6.drew.setCell ⟨rb,b,none⟩ (.int .i64 (state ti)))):=HB7.out.setCell (p:=⟨rb,b,none⟩) hrbl _;generalize state ti=sti at*;clear hav hold;go_wp2;go_roundw
          case rel=>exact⟨b+1,by omega,by go_num,HTF.out,HCF.out,HBF.out⟩
          case measure=>simp[intOf];omega
         | false=>
          rw[hav]at ya HFB2;have HCF:=aA (HC8.out (HFB2.out.trans (if_neg (by decide))));clear hav ys;go_wp2;go_roundw
          case rel=>exact⟨b+1,by omega,by go_num,HT7.out,HCF.out,HB7.out⟩
          case measure=>simp[intOf];omega
      ·have eb:b=256:=by omega
       subst eb;obtain⟨htd,herw⟩:=htm.done hcr;have hbd:Below wr.heap.size wr wr.drew:=⟨rfl,rfl,rfl,aL _,fun _ _=>rfl⟩
       have HTD:=aA (htd.below hbd);have HER:Hid (pY wr.drew (fun g=>(if g=rb then 0 else O2 g)=0) [.slice (some ⟨rb,0,none⟩) 256 256] (kW To al state first s)):=herw;have HBD9:Hid (Below tb WL wr.drew):=⟨hbl.os,hbl.tape,hbl.output,hbl.size,hbl.block⟩
       have gv:=HGX.out wr hbl;have c1:=gv.c1;have o0:=gv.o f hfn;have y0:=HY.out wr hbl;have ct:=htm.c0;have ft:=htm.fz 0;obtain⟨aO,qO2,eO⟩:=aK htm.rO.1;subst eO;have HRO:=aA htm.rO.1;rw[HOL.out]at ct HRO HTD;have HTO:Hid (∀k,(cP aO s qO2).ownBlock=some k->O2 k=2):=by
        unfold Hid;have:=htm.tO;rw[HOL.out]at this;exact this
       have htb:=htm.wt.2.1;have HWT:=aA htm.wt.1;have hzt:=hbl.size;clear htm hcr hbl htd herw hbd gv HTM HCR HBL;generalize hofv:of f=ofv at*;have HOFV:=aA hofv;clear hofv;have hrbt:=hrbl;go_upto_region 31 with fail
       go_cut [15] from 98 to 160 (fun q wx=>q= .int .i64 (s:Int)/\∃(O9:Nat->Nat) (v9:Value) (c9:List (List Value)),TM tb tb wx O9 v9 vT (Of2++ [ofv]) rows2 c9 cT/\pY wx (fun g=>O9 g=0) [.slice (some ⟨rb,0,none⟩) 256 256] (kW To al state first s)/\Below tb WL wx/\Hid (∀k,k<tb->O9 k=5))
       case first=>
        go_region_law ((refine lT wr.drew rfl (.tmp 141) (.tmp 152) 59 rfl tb 3 (.int .i64 0) 1 8 Tryz.underlying59 Tryz.infoIntR rfl (by decide) (by decide) (.slice aO s qO2) s cO.flatten [.int .i64 ofv] _ rfl HRO.out wr.heap.size rfl rfl rfl (by simp[eL]) (by omega) (by show tb<=wr.heap.size;omega) ?_;intro g8 cap8 w8 hown8 hgrow8 hat8 hlt8;have m8:=((bG hgrow8 (k:=tb) (by show tb<wr.heap.size;omega) (fun e=>by have:=HTO.out tb e.symm;have:=HWT.out;omega)).1 0).trans ct;have n8:=((bG hgrow8 (k:=tb) (by show tb<wr.heap.size;omega) (fun e=>by have:=HTO.out tb e.symm;have:=HWT.out;omega)).2 0).trans ft;have HO8:=aA hown8;have HG8:=aA hgrow8;have HA8:=aA hat8;clear hown8 hgrow8 hat8))
        all_goals
         obtain⟨htm9,hkp9,hz9,hbl9⟩:=HTD.out.pushO (x:=ofv) HOL.out (show rX _ _ [.int .i64 ofv] ofv from rfl) rfl HO8.out HG8.out HA8.out;have hg8:=(HO8.out.lt g8 rfl).1;have HTM9:=aA htm9;have HBL9:=aA (hbl9 WL HBD9.out);have hzs:(w8.setCell ⟨tb,0,none⟩ (.slice (some ⟨g8,0,none⟩) (s+1) cap8)).heap.size=w8.heap.size:=by simp[World.setCell]
         have HER9:=aA (pY.keeps wr.drew _ _ (fun k=>(if k=g8 then 2 else if k=rb then 0 else O2 k)=0) _ _ HER.out (cL hz9 (Nat.le_of_eq hzs.symm)) (fun k h0 hk=>⟨(hkp9 k hk (by omega) (by omega)).1,(hkp9 k hk (by omega) (by omega)).2.trans h0⟩));have HO59:Hid (∀k,k<tb->(if k=g8 then 2 else if k=rb then 0 else O2 k)=5):=fun k hk=>by rw[if_neg (by omega),if_neg (by omega)];exact HO52.out k hk
         clear htm9 hkp9 hz9 hbl9 m8 n8 HO8 HG8 HA8 hlt8;go_wp2_with fail;go_meet
         case rel=>exact⟨rfl,_,_,_,HTM9.out,HER9.out,HBL9.out,HO59⟩
       case rest=>
        obtain⟨rfl,O9,v9,c9,htm9,her9,hbl9,HO59⟩:=hcut;have HTM9:=aA htm9;have HER9:=aA her9;have HBL9:=aA hbl9;have ct9:=htm9.c1;have ft9:=htm9.fz 1;obtain⟨aT,qT2,eT⟩:=aK htm9.rT.1;subst eT;have HRO9:=aA htm9.rT.1;rw[HRL.out]at ct9 HRO9 HTM9;have HTT:Hid (∀k,(cP aT s qT2).ownBlock=some k->O9 k=3):=by
         unfold Hid;have:=htm9.tT;rw[HRL.out]at this;exact this
        have htb9:=htm9.wt.2.1;have HWT9:=aA htm9.wt.1;have hz9:=hbl9.size;clear htm9 her9 hbl9 c1 o0 y0 ct ft HRO HTO HWT HTD HER HBD9;go_upto_region 22 with(first | (at_builtin;refine aF wc rfl (.tmp 156) (.tmp 158) 66 rfl tb 59 (.slice none 0 0) 1 24 Tryz.underlying66 Tryz.infoIntsR rfl (by decide) (by decide) (.slice aT s qT2) s cT.flatten [.slice (some ⟨rb,0,none⟩) 256 256] _ rfl HRO9.out _ rfl rfl rfl (by simp[eL]) (by omega) (by omega) ?_;intro g8 cap8 w8 hown8 hgrow8 hat8 hlt8;have m8:=((bG hgrow8 (k:=tb) htb9 (fun e=>by have:=HTT.out tb e.symm;have:=HWT9.out;omega)).1 1).trans ct9;have n8:=((bG hgrow8 (k:=tb) htb9 (fun e=>by have:=HTT.out tb e.symm;have:=HWT9.out;omega)).2 1).trans ft9;have HO8:=aA hown8;have HG8:=aA hgrow8;have HA8:=aA hat8;clear hown8 hgrow8 hat8))
        obtain⟨htm10,_,_,hbl10⟩:=HTM9.out.pushT HRL.out HER9.out rfl HO8.out HG8.out HA8.out;have hg8:=(HO8.out.lt g8 rfl).1;have HTM10:=aA htm10;have HBL10:=aA (hbl10 WL HBL9.out);have HO510:Hid (∀k,k<tb->(if k=g8 then 3 else O9 k)=5):=fun k hk=>by rw[if_neg (by omega)];exact HO59.out k hk
        have HOv2:Hid (∀(i:Nat) (x:Int),(Of2++ [ofv])[i]? =some x->x=of (first.getD i 0)):=fun i x hx=>by
         by_cases hi:i<Of2.length
         ·rw[bS hi]at hx;exact HOv.out i x hx
         ·have:=(aR.1 hx).1;rw[bK,bN]at this;have e:i=Of2.length:=by omega
          subst e;rw[bO (aL _),eS]at hx;have e:ofv=x:=by simpa using hx
          rw[HOL.out,HGD.out,HOFV.out];exact e.symm
        have HRv2:Hid (∀(i:Nat) (f:Nat->Int),(rows2++ [kW To al state first s])[i]? =some f->∀b,b<256->f b=kW To al state first i b):=fun i f hf b hb=>by
         by_cases hi:i<rows2.length
         ·rw[bS hi]at hf;exact HRv.out i f hf b hb
         ·have:=(aR.1 hf).1;rw[bK,bN]at this;have e:i=rows2.length:=by omega
          subst e;rw[bO (aL _),eS]at hf;have e:kW To al state first s=f:=by simpa using hf
          rw[HRL.out,←e]
        clear htm10 hbl10 m8 n8 hlt8 HO8 HG8 HA8 HRO9 HTT HTM9 HER9 ct9 ft9 HWT9;generalize w8.setCell ⟨tb,1,none⟩ (.slice (some ⟨g8,0,none⟩) (s+1) cap8)=W10 at*;go_wp2;go_roundw
        case rel=>exact⟨s+1,_,_,_,_,_,_,_,by omega,by go_num,HTM10.out,by rw[bK,HOL.out];rfl,by rw[bK,HRL.out];rfl,HOv2,HRv2,HBL10.out,HO510⟩
        case measure=>simp[intOf];omega
    ·have esn:s=nf:=by omega
     have dsn:decide ((s:Int)<(nf:Int))=false:=by simp;omega
     have hblW:Below W0.heap.size W0 wr:=⟨hbl.os.trans HBLW.out.os,hbl.tape.trans HBLW.out.tape,hbl.output.trans HBLW.out.output,cL HBLW.out.size hbl.size,fun k hk=>(hbl.block k (by omega)).trans (HBLW.out.block k hk)⟩
     have e0:=(hblW.cell (p:=⟨w.heap.size,0,none⟩) (by show w.heap.size<W0.heap.size;omega)).trans hrc0;have e1:=(hblW.cell (p:=⟨w.heap.size,1,none⟩) (by show w.heap.size<W0.heap.size;omega)).trans hrc1;have f0:∀i,wr.frozen? ⟨w.heap.size,i,none⟩=false:=fun i=>(hblW.frozen (p:=⟨w.heap.size,i,none⟩) (by show w.heap.size<W0.heap.size;omega)).trans (hrf i)
     have f00:=f0 0;have f01:=f0 1;have t0:=htm.c0;have t1:=htm.c1;have hv1:vO.oneCell'=true:=by obtain⟨x,y,e⟩:=aK htm.rO.1;rw[e];rfl
     have hv2:vT.oneCell'=true:=by obtain⟨x,y,e⟩:=aK htm.rT.1;rw[e];rfl
     have HONE:Hid (∀v∈ [vO,vT],v.oneCell'=true):=fun v hv=>by
      rcases List.mem_cons.1 hv with e | e
      ·rw[e];exact hv1
      ·rw[List.mem_singleton.1 e];exact hv2
     have HIM:Hid (wr.rangeAt tb 0 [vO,vT]):=fun j v hv=>by
      rcases j with _ | _ | j
      ·have e:vO=v:=by simpa using hv
       rw[←e];exact t0
      ·have e:vT=v:=by simpa using hv
       rw[←e];exact t1
      ·simp at hv
     have HTH:Hid (wr.there w.heap.size 0 2):=fun j hj=>by
      rcases j with _ | _ | j
      ·exact⟨by show(wr.cell? ⟨w.heap.size,0,none⟩).isSome=true;rw[e0];rfl,f00⟩
      ·exact⟨by show(wr.cell? ⟨w.heap.size,1,none⟩).isSome=true;rw[e1];rfl,f01⟩
      ·omega
     have hXk:∀k,k≠w.heap.size->(wr.setCells w.heap.size 0 [vO,vT]).heap[k]? =wr.heap[k]? :=fun k hne=>(cB (wr.setCell ⟨w.heap.size,0,none⟩ vO) w.heap.size 1 vT hne).trans (cB wr w.heap.size 0 vO hne)
     have hXz:wr.heap.size<=(wr.setCells w.heap.size 0 [vO,vT]).heap.size:=(aD [vO,vT] 0 wr w.heap.size (eN 0 _) (Nat.zero_le _)).size;have htmX:TM tb tb (wr.setCells w.heap.size 0 [vO,vT]) O vO vT Of2 rows2 cO cT:=htm.keep hXz (fun k _ h5=>⟨hXk k (fun e=>h5 (by rw[e];exact HO5.out _ (by omega))),rfl⟩) (fun k hk=>htm.fr k (by omega));have hvw:=htmX.view hnf0 (by rw[HOL.out];exact esn) (by rw[HRL.out];exact esn);have HTB2:Hid (TbV (wr.setCells w.heap.size 0 [vO,vT]) vO vT nf (fun s=>of (first.getD s 0)) (kW To al state first)):=by
      obtain⟨g1,c1,g2,c2,rw2,k1,k2,k3,k4,k5,k6⟩:=hvw;refine⟨g1,c1,g2,c2,rw2,k1,k2,k3,fun i hi=> ?_,k5,fun i b hi hb=> ?_⟩
      ·have hx:=bC (l:=Of2) (i:=i) (by rw[HOL.out];omega);have:=HOv.out i _ hx;rw[k4 i hi];show some (eR .i64 (Of2.getD i 0))=_;rw[bM,hx];exact congrArg (fun x=>some (eR .i64 x)) this
      ·have hx:=bC (l:=rows2) (i:=i) (by rw[HRL.out];omega);have:=HRv.out i _ hx b hb;rw[k6 i b hi hb];show some (eR .i64 (rows2.getD i (fun _=>0) b))=_;rw[bM,hx,←this];rfl
     have HBX:Hid (Below w.heap.size w (wr.setCells w.heap.size 0 [vO,vT])):=aD _ 0 _ _ (dO HBA.out hblW) (aL _);have HTI:Hid (D2 (nvN L) l0 nf (fun s=>of (first.getD s 0)) (kW To al state first)):=by
      have hcn:=HTL.out.canon HAU.out HOD.out HALV.out HPC.out;rw[HNF.out]at hcn;refine⟨hcn,fun i hi=> ?_, ?_,fun b u hl=> ?_⟩
      ·have hx:=bC (l:=first) (i:=i) (by rw[HNF.out];exact hi);show -1<=of (first.getD i 0)/\of (first.getD i 0)<8;rw[oT hx];exact HOF.out _ (HFI.out i _ hx)
      ·show of (first.getD 0 0)= -1;rw[oT HZ.out];exact HZO.out
      ·have:=HTL.out.obs0 HAU.out HALV.out HPC.out (b::u) hl;have ht:=HTOK.out b u hl;rw[←this]at ht;exact ht
     have hnn:nf<=1025:=by omega
     clear htm hbl hblW f0 esn hvw htmX hXk hXz;go_wp2_with (first
      | (refine wpList_load_mid rfl 68 (.tmp 14) rfl tb 0 rfl [vO,vT] _ HIM.out Tryz.underlying68 rfl Tryz.tableSize ?_)
      | (refine wpList_store_mid rfl 68 (.tmp 6) (.tmp 161) rfl w.heap.size 0 [vO,vT].toArray rfl rfl HTH.out Tryz.tableSize (all_oneCell_toArray HONE.out) ?_))
     refine eP Tryz.results22 w.heap.size 0 [vO,vT] _ rfl ?_ Tryz.underlying68 rfl Tryz.tableSize rfl ?_
     ·exact World.rangeAt_setCells_same _ _ _ _ HTH.out
     ·exact⟨vO,vT,nf,_,_,rfl,HBX.out,HTB2.out,hnn,HTI.out⟩
end Go.Proofs.YtgjgjgihceijnaaGreat
