import Derived.Test.YtgjgjgihceijnaaGreatG39
import Derived.Test.YtgjgjgihceijnaaGreatG38
open Nat renaming le_refl->aL,le_trans->aT,lt_of_lt_of_le->bC,le_of_lt->bO,zero_add->eR
open List renaming getElem?_eq_getElem->aO,mem_of_getElem?->aR,getElem?_eq_some_iff->bK,getElem?_of_mem->bN,getElem?_append_left->bS,length_take->bT,take_length->cF,take_zero->cL,mem_of_mem_take->cN,length_append->cP,flatMap_nil->cR,map_nil->eO
open Go.RowKit.Below renaming refl->bM
open Go.World renaming cell?_alloc_at->cO
open Go.Value renaming ownBlock->cT,oneCell'->eL,slice->eS
set_option maxRecDepth 100000
set_option maxHeartbeats 8000000
namespace Go.Proofs.YtgjgjgihceijnaaGreat
open Go.RowKit Go.Stn
theorem Jg {α:Type}:∀{xs:List α} {Q:Nat->Value->α->Prop},(∀(k:Nat) (x:α),xs[k]? =some x->∃u,Q k u x)->∃us:List Value,us.length=xs.length/\∀(k:Nat) (u:Value) (x:α),us[k]? =some u->xs[k]? =some x->Q k u x
 | [],Q,_=>⟨[],rfl,fun k u x h=>by simp at h⟩
 | y::xs,Q,h=>by
  obtain⟨u,hu⟩:=h 0 y rfl;obtain⟨us,h1,h2⟩:=Jg (xs:=xs) (Q:=fun k=>Q (k+1)) (fun k x hx=>h (k+1) x (by simpa using hx));refine⟨u::us,by simp[h1],fun k v x hv hx=> ?_⟩
  cases k with
  | zero=>
   have e1:u=v:=by simpa using hv
   have e2:y=x:=by simpa using hx
   rw[←e1,←e2];exact hu
  | succ k=>exact h2 k v x (by simpa using hv) (by simpa using hx)
theorem yA (w:World){ops:Array Oper}{rest:List Oper}{o:Oper}{a:Act}{Q:Exit->Act->World->Prop}(hgd:o.guard=none)(s x:Operand)
  (ho:o.op= .call {callee:= .builtin .append,args:= #[s,x],argTypes:= #[66,66]})
  (base:Nat) (v:Value) (xs ys:List (List Nat)) (vs:List Value) (u:Value) (B:Nat) (hs:a.eval s=v) (hown:LL w base v xs vs) (hx:a.eval x=u) (hu:LLr w B u ys) (hB:base<=B) (hne:∀k,B<=k->v.ownBlock≠some k) (hn:xs.length+ys.length<=1000000000) (hbase:base<=w.heap.size)
  (h:∀v' w',(∃vs',LL w' base v' (xs++ys) vs')->w.grownBy w' v.ownBlock->(∀g,v'.ownBlock=some g->v.ownBlock=some g\/w.heap.size<=g)->wpList Tryz.prog ops Q rest (a.put o.dst v') w'):wpList Tryz.prog ops Q (o::rest) a w:=by
 obtain⟨i,hi,hz,hsize,hb⟩:=info_parts Tryz.infoIntsR;obtain⟨ad,cap,rfl,hu⟩:=hu;have hnil:ys= []->wpList Tryz.prog ops Q (o::rest) a w:=fun e=>by
  subst e;refine wpList_plain hgd fun K hK=> ?_
  have hr:=rA (P:=Tryz.prog) w 66 o.type base 59 i 1 Tryz.underlying66 hi v xs.length vs hown.ro ad cap;have hh:=h v w ⟨vs,by rw[List.append_nil];exact hown⟩ ⟨rfl,rfl,rfl,aL _,fun _ _ _=>rfl⟩ (fun g e=> .inl e);unfold Oper.wp execOp;simp only[ho,resolve,invoke,builtin,Go.Sem.run_bind,Go.Sem.run_pure,Result.andThen_ok,List.map_toArray,List.map_cons,eO,hs,hx,List.length_nil,hr];exact hK _ _ hh
 rcases hu with e | ⟨g,rfl,hg1,hg2,hc⟩
 ·exact hnil e
 ·by_cases hz0:ys.length=0
  ·exact hnil (List.length_eq_zero_iff.1 hz0)
  ·obtain⟨us,hul,hus⟩:=Jg (Q:=fun k u x=>w.cell? ⟨g,k,none⟩=some u/\ILb w B none u x) hc;have hat:∀(j:Nat) (y:Value),us[j]? =some y->∃x,ys[j]? =some x:=fun j y hy=>by
    have:=(bK.1 hy).1;exact⟨ys[j]'(by omega),aO _⟩
   have hvl:vs.length=xs.length:=by have:=hown.ro.1;omega
   refine wpList_append_lies w hgd s x 66 ho base 59 i (.slice none 0 0) 1 24 Tryz.underlying66 hi hz hsize hb rfl (by decide) v xs.length vs hs hown.ro ⟨g,0,none⟩ ys.length cap us hx (by omega) (fun j y hy=> ?_) (fun y hy=> ?_) (by omega) (by unfold maxLen;omega) (by omega) hbase _ rfl (fun g4 cap4 w4 h1 h2 h3 h4=>h _ w4 ⟨vs++us,⟨by rw[cP];exact h1,fun j a b ha hb=> ?_⟩⟩ h2 (fun k e=> ?_))
   ·rw[iL,eR];obtain⟨x,hx⟩:=hat j y hy;exact(hus j y x hy hx).1
   ·obtain⟨j,hj⟩:=bN hy;obtain⟨x,hx⟩:=hat j y hj;obtain⟨a,c,e,_⟩:=(hus j y x hj hx).2;rw[e];rfl
   ·have keep:∀k,k<w.heap.size->v.ownBlock≠some k->w4.heap[k]? =w.heap[k]? /\(eS (some ⟨g4,0,none⟩) (xs.length+ys.length) cap4).ownBlock≠some k:=fun k hk h0=>by
     refine⟨h2.block k hk (fun e=>h0 e.symm),fun e=> ?_⟩;have e:g4=k:=by simpa[cT]using e
     subst e;rcases h3 with e1 | e1
     ·exact h0 e1
     ·omega
    by_cases hj:j<vs.length
    ·rw[bS hj]at ha;rw[bS (by omega)]at hb;exact(hown.el j a b ha hb).keep h2.size (fun k _=>keep k) (aL _)
    ·rw[List.getElem?_append_right (by omega)]at ha hb;rw[hvl]at ha;exact(hus _ a b ha hb).2.keep h2.size (fun k h1 hk _=>keep k hk (hne k h1)) hB
   ·have e:g4=k:=by simpa[cT]using e
    subst e;rcases h3 with e1 | e1
    ·exact .inl e1
    ·exact .inr (by omega)
theorem RI.many {w w1 wr w4:World}{vo1 vo v':Value}{xs ys:List (List Nat)}(h:RI w w1 vo1 wr vo xs)(hl:∃vs,LL w4 w.heap.size v' ys vs)(hg:wr.grownBy w4 vo.ownBlock)(ho:∀g,v'.ownBlock=some g->vo.ownBlock=some g\/wr.heap.size<=g):RI w w1 vo1 w4 v' ys:=by
 have hz:=h.gr.size;have hz2:=h.bl.size;have hz3:=hg.size;obtain⟨vs0,hl0⟩:=h.ll;refine⟨hl,⟨hg.os.trans h.gr.os,hg.tape.trans h.gr.tape,hg.output.trans h.gr.output,by omega,fun k hk hne=> ?_⟩,fun g e=> ?_,⟨hg.os.trans h.bl.os,hg.tape.trans h.bl.tape,hg.output.trans h.bl.output,by omega,fun k hk=> ?_⟩⟩
 ·refine(hg.block k (by omega) (fun e=> ?_)).trans (h.gr.block k hk hne);rcases h.ow k e.symm with e1 | e1
  ·exact hne e1.symm
  ·omega
 ·rcases ho g e with e1 | e1
  ·exact h.ow g e1
  ·right;omega
 ·exact(hg.block k (by omega) (fun e=>by have:=(hl0.ro.lt k e.symm).1;omega)).trans (h.bl.block k hk)
theorem LLr.lower {w:World}{B B':Nat}{v:Value}{xs:List (List Nat)}(h:LLr w B v xs)(hb:B'<=B):LLr w B' v xs:=h.keep (aL _) (fun _ _ _=>rfl) hb
theorem xD {l:List Nat}{i m:Nat}(B:Nat->List (List Nat))(h:l[i]? =some m):(l.take (i+1)).flatMap B=(l.take i).flatMap B++B m:=by
 rw[List.take_add_one,h,List.flatMap_append];simp
theorem Ig {B:Nat->List (List Nat)}:∀(l:List Nat),(∀m,m∈l->(B m).length<=10)->(l.flatMap B).length<=10*l.length
 | [],_=>by simp
 | m::l,h=>by
  rw[List.flatMap_cons,cP,List.length_cons];have:=h m List.mem_cons_self;have:=Ig l (fun x hx=>h x (List.mem_cons_of_mem _ hx));omega
theorem Ax {fb gN cap:Nat}{L:List NV}(hs:kP (nvN L))(hc:aN (nvN L))(hL:L.length<=3000)(c:Nat)(hc256:c<256):∀(n:Nat),n<L.length->(∀m,Und (nvN L) n m->(bD (nvN L) c m).length<=10)->Wl fb L gN cap c n:=by
 intro n
 induction n using Nat.strongRecOn with
 | ind n ih=>
  intro hn hU w h;obtain⟨t,ht⟩:∃t,L[n]? =some t:=⟨L[n],aO hn⟩
  have hx:=xV ht;have HE:=aA (wW hc (c:=c) hx);have hsh:=hs n t.x hx;have hlt:=hc n t.x hx;have HIH:Hid (∀m,m∈t.x.l->Wl fb L gN cap c m):=fun m hm=>ih m (hlt m hm) (by have:=hlt m hm;omega) (fun k hk=>hU k (Und.trans (.step .refl hx hm) hk))
  have HBM:Hid (∀m,m∈t.x.l->m<L.length/\(bD (nvN L) c m).length<=10/\∀y,y∈bD (nvN L) c m->y.length<=1000000):=fun m hm=>by
   have hml:m<L.length:=by have:=hlt m hm;omega
   refine⟨hml,hU m (.step .refl hx hm),fun y hy=> ?_⟩;have hml':m<(nvN L).length:=by rw[dQ];exact hml
   have:=(Ij hc hs m hml' y (E9 hc m hml' y hy)).2;omega
  have HROW:=aA (fun(l:List Nat) hb hm hl W hW v (hv:IL W v l)=>Eh (fb:=fb) (gN:=gN) (cap:=cap) hs hc (by omega) c (l:=l) hb hm hl (w:=W) hW (v:=v) hv);have HND:=aA (h.nd n t ht).1;have HNR:=aA (h.nd n t ht).2;have hnI:(0:Int)<=(n:Int)/\(n:Int)<(L.length:Int):=by omega
  have c0:=h.c0;have HF:=aA h;have HBW:Hid (Below w.heap.size w ((w.alloc (.cells #[.int .i64 0,.slice none 0 0,.slice none 0 0] 180)).setCells w.heap.size 0 t.cells)):=aD _ 0 _ _ ((bM _ _).alloc (aL _) _) (aL _);have HTH:Hid ((w.alloc (.cells #[.int .i64 0,.slice none 0 0,.slice none 0 0] 180)).there w.heap.size 0 3):=bI _ _ _ _ _ rfl rfl;have HRW:Hid (((w.alloc (.cells #[.int .i64 0,.slice none 0 0,.slice none 0 0] 180)).setCells w.heap.size 0 t.cells).rangeAt w.heap.size 0 t.cells):=World.rangeAt_setCells_same _ _ _ _ HTH.out;have hzW:w.heap.size<((w.alloc (.cells #[.int .i64 0,.slice none 0 0,.slice none 0 0] 180)).setCells w.heap.size 0 t.cells).heap.size:=by
   have:=(aD t.cells 0 (w.alloc (.cells #[.int .i64 0,.slice none 0 0,.slice none 0 0] 180)) w.heap.size (bM 0 _) (Nat.zero_le _)).size;simp at this;omega
  have HON:=aA (NV.one HNR.out);clear ih h ht hU hx hlt;go_enter Tryz.func107,Tryz.ntmps107;go_upto_region 2 with(first
   | (refine wpList_load_mid rfl 180 (.tmp 19) rfl gN (n*3) rfl t.cells _ HND.out Tryz.underlying180 rfl Tryz.rnodeSize ?_)
   | (refine wpList_store_mid rfl 180 (.tmp 7) (.tmp 20) rfl w.heap.size 0 t.cells.toArray rfl rfl HTH.out Tryz.rnodeSize (all_oneCell_toArray HON.out) ?_))
  generalize (w.alloc (.cells #[.int .i64 0,.slice none 0 0,.slice none 0 0] 180)).setCells w.heap.size 0 t.cells=W at*;have HFW:=aA (HF.out.below HBW.out (aL _));have HNW:=aA (HNR.out.below HBW.out (aL _));have n0:W.cell? ⟨w.heap.size,0,none⟩=some (.int .i64 (t.x.k:Int)):=by have:=HRW.out 0 _ rfl;exact this
  have n1:W.cell? ⟨w.heap.size,1,none⟩=some t.l:=by have:=HRW.out 1 _ rfl;exact this
  have n2:W.cell? ⟨w.heap.size,2,none⟩=some t.i:=by have:=HRW.out 2 _ rfl;exact this
  clear HTH HND c0 HRW HON HF HNR;have h5:t.x.k=0\/t.x.k=1\/(t.x.k=2\/t.x.k=4)\/t.x.k=3:=by omega
  rcases h5 with e | e | e | e
  · -- a place
   obtain⟨g,hi,hg,hcell⟩:∃g,t.i= .slice (some ⟨g,0,none⟩) 256 256/\g<W.heap.size/\∀i,i<256->W.cell? ⟨g,i,none⟩=some (.bool (t.x.f i)):=by
    rcases HNW.out with⟨_,_,_,g,h4,h6,h7⟩ | ⟨h0,_⟩
    ·exact⟨g,h4,h6,h7⟩
    ·exact absurd e h0
   have HR:Hid (bD (nvN L) c n=if t.x.f c=true then [[]]else []):=by unfold Hid;rw[HE.out,if_pos e]
   rw[e]at n0;rw[hi]at n2;have y0:=hcell c hc256;have hcI:(0:Int)<=(c:Int)/\(c:Int)<(256:Int):=by omega
   clear e hsh hi hcell HE HNW
   cases hf:t.x.f c with
   | true=>
    rw[hf]at y0;rw[hf,if_pos rfl]at HR;clear hf;go_wp2_with (first | (at_builtin;refine aF W rfl (.tmp 30) (.tmp 31) 66 rfl W.heap.size 59 (.slice none 0 0) 1 24 Tryz.underlying66 Tryz.infoIntsR rfl (by decide) (by decide) (.slice none 0 0) 0 [] [.slice none 0 0] _ rfl (World.ownsRow_nil _ _ _ 1) _ rfl rfl rfl (by simp[eL]) (by omega) (by omega) ?_;intro g4 cap4 w4 hown4 hgrow4 hat4 hlt4;have HR4:=aA ((RI.start W).app (ILb.nil _ _ _) rfl (LL.start _ _) hown4 hgrow4 hat4);clear hown4 hgrow4 hat4 hlt4));go_ret;refine⟨_,rfl, ?_, ?_⟩
    ·exact⟨HR4.out.bl.os.trans HBW.out.os,HR4.out.bl.tape.trans HBW.out.tape,HR4.out.bl.output.trans HBW.out.output,aT HBW.out.size HR4.out.bl.size,fun k hk=>(HR4.out.bl.block k (by omega)).trans (HBW.out.block k hk)⟩
    ·rw[HR.out];exact HR4.out.done.2.lower (bO hzW)
   | false=>
    rw[hf]at y0;rw[hf,if_neg (by decide)]at HR;clear hf;go_wp2;go_ret;exact⟨_,rfl,HBW.out,by rw[HR.out];exact(LL.start W _).read⟩
  · -- one behind the other
   obtain⟨g,lc,hl,hcp,hg,HG⟩:∃g lc,t.l= .slice (some ⟨g,0,none⟩) t.x.l.length lc/\t.x.l.length<=lc/\g<W.heap.size/\Hid (∀(i m:Nat),t.x.l[i]? =some m->W.cell? ⟨g,i,none⟩=some (.int .i64 (m:Int))):=by
    rcases HNW.out with⟨h0,_⟩ | ⟨_,_,g,lc,h1,h2,h3⟩
    ·omega
    ·exact⟨g,lc,h1,h3.2,h2,aA h3.1⟩
   have HR:Hid (bD (nvN L) c n=hO (bD (nvN L) c) (nvN L) t.x.l):=by unfold Hid;rw[HE.out,if_neg (by omega),if_pos e]
   have HIL:Hid (IL W (.slice (some ⟨g,0,none⟩) t.x.l.length lc) t.x.l):=⟨_,_,rfl,hcp,.inr ⟨g,0,rfl,hg,fun i m hm=>by rw[eR];exact HG.out i m hm⟩⟩
   have hll:=hsh.2.2;rw[e]at n0;rw[hl]at n1;clear e hsh HE HNW hl;go_wp2_with fail;refine(HROW.out t.x.l HIH.out HBM.out (by omega) _ (HFW.out.below (w':=W) ⟨rfl,rfl,rfl,aL _,fun _ _=>rfl⟩ (aL _)) _ (HIL.out.below (w':=W) ⟨rfl,rfl,rfl,aL _,fun _ _=>rfl⟩ (aL _))).mono ?_;rintro e w1 ⟨v',rfl,hb1,hl1⟩;have HB1:=aA hb1;have HL1:=aA hl1;clear hb1 hl1;go_wp2;go_ret;refine⟨_,rfl, ?_,by rw[HR.out];exact HL1.out.lower (bO hzW)⟩;exact⟨HB1.out.os.trans HBW.out.os,HB1.out.tape.trans HBW.out.tape,HB1.out.output.trans HBW.out.output,aT HBW.out.size HB1.out.size,fun k hk=>(HB1.out.block k (by omega)).trans (HBW.out.block k hk)⟩
  · -- one of them
   obtain⟨g,lc,hl,hcp,hg,HG⟩:∃g lc,t.l= .slice (some ⟨g,0,none⟩) t.x.l.length lc/\t.x.l.length<=lc/\g<W.heap.size/\Hid (∀(i m:Nat),t.x.l[i]? =some m->W.cell? ⟨g,i,none⟩=some (.int .i64 (m:Int))):=by
    rcases HNW.out with⟨h0,_⟩ | ⟨_,_,g,lc,h1,h2,h3⟩
    ·omega
    ·exact⟨g,lc,h1,h3.2,h2,aA h3.1⟩
   have HR:Hid (bD (nvN L) c n=t.x.l.flatMap (bD (nvN L) c)):=by unfold Hid;rw[HE.out,if_neg (by omega),if_neg (by omega),if_pos e]
   have hll:=hsh.2.2;rw[hl]at n1;clear hsh HE HNW hl HROW;generalize t.x.l=l at*;obtain⟨N,eN⟩:∃N,l.length=N:=⟨_,rfl⟩
   rw[eN]at n1 hll hcp;have HLN:=aA eN;clear eN;rcases e with e | e
   ·rw[e]at n0;clear e;go_wp2
    go_loopw [8,9] (fun y z wr=>∃i,i<=N/\z= .int .i64 (i:Int)/\RI W W (.slice none 0 0) wr y ((l.take i).flatMap (bD (nvN L) c))) (fun _ z _=>N - (intOf z).toNat)
    case atStart=>exact⟨0,by omega,rfl,by rw[cL,cR];exact RI.start W⟩
    case round=>
     obtain⟨i,hi,rfl,hri⟩:=hrel;have HRI:=aA hri;have n1r:=(hri.bl.cell (p:=⟨w.heap.size,1,none⟩) hzW).trans n1;clear hri;by_cases hlt:i<N
     ·obtain⟨m,hm⟩:∃m,l[i]? =some m:=⟨l[i]'(by rw[HLN.out];exact hlt),aO _⟩
      have y0:wr.cell? ⟨g,i,none⟩=some (.int .i64 (m:Int)):=(HRI.out.bl.cell (p:=⟨g,i,none⟩) hg).trans (HG.out i m hm);have hmm:=aR hm;have hiI:(0:Int)<=(i:Int)/\(i:Int)<(N:Int):=by omega
      have HBm:=aA (HIH.out m hmm);have hb10:=(HBM.out m hmm).2.1;have HFM:Hid ((l.take i).flatMap (bD (nvN L) c)++bD (nvN L) c m=(l.take (i+1)).flatMap (bD (nvN L) c)):=(xD _ hm).symm;have hfl:((l.take i).flatMap (bD (nvN L) c)).length<=10*i:=by
       have:=Ig (B:=bD (nvN L) c) (l.take i) (fun x hx=>(HBM.out x (cN hx)).2.1);rw[bT]at this;omega
      clear hm hmm;go_upto_region 15 with fail;refine(HBm.out _ (HFW.out.below (B:=W.heap.size) ⟨HRI.out.bl.os,HRI.out.bl.tape,HRI.out.bl.output,HRI.out.bl.size,HRI.out.bl.block⟩ (aL _))).mono ?_;rintro e w1 ⟨vm,rfl,hb1,hl1⟩;have HR1:=aA (HRI.out.below ⟨hb1.os,hb1.tape,hb1.output,hb1.size,hb1.block⟩);have HL1:=aA hl1;have hz1:=hb1.size;have hzr:=HRI.out.bl.size;obtain⟨vs1,hll1⟩:=HRI.out.ll;have HNE:Hid (∀k,wr.heap.size<=k->u8.ownBlock≠some k):=fun k hk e=>by
       have:=(hll1.ro.lt k e).2;omega
      obtain⟨vs2,hll2⟩:=HR1.out.ll;have HLL:=aA hll2;clear hb1 hl1 hll1 hll2 HRI n1r y0;generalize (l.take i).flatMap (bD (nvN L) c)=xi at*;generalize bD (nvN L) c m=ym at*;go_wp2_with (first | (at_builtin;refine yA w1 rfl (.tmp 58) (.tmp 59) rfl W.heap.size u8 xi ym vs2 vm wr.heap.size rfl HLL.out rfl HL1.out hzr HNE.out (by omega) (by omega) ?_;intro v4 w4 hl4 hg4 ho4;have HR4:=aA (HR1.out.many hl4 hg4 ho4);clear hl4 hg4 ho4));go_roundw
      case rel=>exact⟨i+1,by omega,by go_num,by rw[←HFM.out];exact HR4.out⟩
      case measure=>simp[intOf];omega
     ·have hiN:i=N:=by omega
      have HRE:Hid (RI W W (.slice none 0 0) wr u8 (l.flatMap (bD (nvN L) c))):=by
       unfold Hid;have:=HRI.out;rw[hiN,←HLN.out,cF]at this;exact this
      have dl:decide ((i:Int)<(N:Int))=false:=by simp;omega
      clear hiN HRI;go_wp2;go_ret;refine⟨_,rfl, ?_,by rw[HR.out];exact HRE.out.done.2.lower (bO hzW)⟩;exact⟨HRE.out.bl.os.trans HBW.out.os,HRE.out.bl.tape.trans HBW.out.tape,HRE.out.bl.output.trans HBW.out.output,aT HBW.out.size HRE.out.bl.size,fun k hk=>(HRE.out.bl.block k (by omega)).trans (HBW.out.block k hk)⟩
   ·rw[e]at n0;clear e;go_wp2
    go_loopw [8,9] (fun y z wr=>∃i,i<=N/\z= .int .i64 (i:Int)/\RI W W (.slice none 0 0) wr y ((l.take i).flatMap (bD (nvN L) c))) (fun _ z _=>N - (intOf z).toNat)
    case atStart=>exact⟨0,by omega,rfl,by rw[cL,cR];exact RI.start W⟩
    case round=>
     obtain⟨i,hi,rfl,hri⟩:=hrel;have HRI:=aA hri;have n1r:=(hri.bl.cell (p:=⟨w.heap.size,1,none⟩) hzW).trans n1;clear hri;by_cases hlt:i<N
     ·obtain⟨m,hm⟩:∃m,l[i]? =some m:=⟨l[i]'(by rw[HLN.out];exact hlt),aO _⟩
      have y0:wr.cell? ⟨g,i,none⟩=some (.int .i64 (m:Int)):=(HRI.out.bl.cell (p:=⟨g,i,none⟩) hg).trans (HG.out i m hm);have hmm:=aR hm;have hiI:(0:Int)<=(i:Int)/\(i:Int)<(N:Int):=by omega
      have HBm:=aA (HIH.out m hmm);have hb10:=(HBM.out m hmm).2.1;have HFM:Hid ((l.take i).flatMap (bD (nvN L) c)++bD (nvN L) c m=(l.take (i+1)).flatMap (bD (nvN L) c)):=(xD _ hm).symm;have hfl:((l.take i).flatMap (bD (nvN L) c)).length<=10*i:=by
       have:=Ig (B:=bD (nvN L) c) (l.take i) (fun x hx=>(HBM.out x (cN hx)).2.1);rw[bT]at this;omega
      clear hm hmm;go_upto_region 15 with fail;refine(HBm.out _ (HFW.out.below (B:=W.heap.size) ⟨HRI.out.bl.os,HRI.out.bl.tape,HRI.out.bl.output,HRI.out.bl.size,HRI.out.bl.block⟩ (aL _))).mono ?_;rintro e w1 ⟨vm,rfl,hb1,hl1⟩;have HR1:=aA (HRI.out.below ⟨hb1.os,hb1.tape,hb1.output,hb1.size,hb1.block⟩);have HL1:=aA hl1;have hz1:=hb1.size;have hzr:=HRI.out.bl.size;obtain⟨vs1,hll1⟩:=HRI.out.ll;have HNE:Hid (∀k,wr.heap.size<=k->u8.ownBlock≠some k):=fun k hk e=>by
       have:=(hll1.ro.lt k e).2;omega
      obtain⟨vs2,hll2⟩:=HR1.out.ll;have HLL:=aA hll2;clear hb1 hl1 hll1 hll2 HRI n1r y0;generalize (l.take i).flatMap (bD (nvN L) c)=xi at*;generalize bD (nvN L) c m=ym at*;go_wp2_with (first | (at_builtin;refine yA w1 rfl (.tmp 58) (.tmp 59) rfl W.heap.size u8 xi ym vs2 vm wr.heap.size rfl HLL.out rfl HL1.out hzr HNE.out (by omega) (by omega) ?_;intro v4 w4 hl4 hg4 ho4;have HR4:=aA (HR1.out.many hl4 hg4 ho4);clear hl4 hg4 ho4));go_roundw
      case rel=>exact⟨i+1,by omega,by go_num,by rw[←HFM.out];exact HR4.out⟩
      case measure=>simp[intOf];omega
     ·have hiN:i=N:=by omega
      have HRE:Hid (RI W W (.slice none 0 0) wr u8 (l.flatMap (bD (nvN L) c))):=by
       unfold Hid;have:=HRI.out;rw[hiN,←HLN.out,cF]at this;exact this
      have dl:decide ((i:Int)<(N:Int))=false:=by simp;omega
      clear hiN HRI;go_wp2;go_ret;refine⟨_,rfl, ?_,by rw[HR.out];exact HRE.out.done.2.lower (bO hzW)⟩;exact⟨HRE.out.bl.os.trans HBW.out.os,HRE.out.bl.tape.trans HBW.out.tape,HRE.out.bl.output.trans HBW.out.output,aT HBW.out.size HRE.out.bl.size,fun k hk=>(HRE.out.bl.block k (by omega)).trans (HBW.out.block k hk)⟩
  · -- none or more
   obtain⟨g,lc,hl,hcp,hg,HG⟩:∃g lc,t.l= .slice (some ⟨g,0,none⟩) t.x.l.length lc/\t.x.l.length<=lc/\g<W.heap.size/\Hid (∀(i m:Nat),t.x.l[i]? =some m->W.cell? ⟨g,i,none⟩=some (.int .i64 (m:Int))):=by
    rcases HNW.out with⟨h0,_⟩ | ⟨_,_,g,lc,h1,h2,h3⟩
    ·omega
    ·exact⟨g,lc,h1,h3.2,h2,aA h3.1⟩
   obtain⟨m,hml⟩:=hsh.2.1 e;have hmm:m∈t.x.l:=by rw[hml];exact List.mem_singleton.2 rfl
   have HR:Hid (bD (nvN L) c n=(bD (nvN L) c m).map (·++ [n])):=by unfold Hid;rw[HE.out,if_neg (by omega),if_neg (by omega),if_neg (by omega),hml]
   have y0:W.cell? ⟨g,0,none⟩=some (.int .i64 (m:Int)):=HG.out 0 m (by rw[hml];rfl);have HBm:=aA (HIH.out m hmm);have hb10:=(HBM.out m hmm).2.1;have HBY:=aA (HBM.out m hmm).2.2;rw[hl]at n1;rw[hml]at n1;rw[e]at n0;clear hsh HE HNW hl HROW e hcp HG HIH HBM hmm hml;have e1:([m]:List Nat).length=1:=rfl;rw[e1]at n1;clear e1;go_upto_region 18 with fail;refine(HBm.out _ (HFW.out.below (w':=W) ⟨rfl,rfl,rfl,aL _,fun _ _=>rfl⟩ (aL _))).mono ?_;rintro e w1 ⟨vm,rfl,hb1,hl1⟩;have hb1':Below W.heap.size W w1:=⟨hb1.os,hb1.tape,hb1.output,hb1.size,hb1.block⟩
   have HR1:=aA ((RI.start W).below hb1');obtain⟨am,cm,rfl,hvm⟩:=hl1;have HVM:=aA hvm;have hz1:=hb1.size;clear hvm hb1 hb1' y0 n1 n0 n2;generalize bD (nvN L) c m=ys at*;obtain⟨M,eM⟩:∃M,ys.length=M:=⟨_,rfl⟩
   rw[eM]at hb10 ⊢;have HLM:=aA eM;clear eM;go_wp2_with fail
   go_loopw [8,12] (fun y2 z2 wr2=>∃k,k<=M/\z2= .int .i64 (k:Int)/\RI W w1 (.slice none 0 0) wr2 y2 ((ys.take k).map (·++ [n]))) (fun _ z2 _=>M - (intOf z2).toNat)
   case atStart=>exact⟨0,by omega,rfl,by rw[cL,eO];exact HR1.out.from⟩
   case round=>
    obtain⟨k,hk,rfl,hri2⟩:=hrel;have HR2:=aA hri2;clear hri2;by_cases hkl:k<M
    ·obtain⟨y,hy⟩:∃y,ys[k]? =some y:=⟨ys[k]'(by rw[HLM.out];exact hkl),aO _⟩
     obtain⟨gm,rfl,hgm1,hgm2,hcm⟩:=HVM.out.resolve_left (fun e=>by rw[e]at hy;simp at hy);obtain⟨u,hu,hiu⟩:=hcm k y hy;have hst:∀j,j<w1.heap.size->wr.heap[j]? =w1.heap[j]? :=fun j h2=>HR2.out.gr.block j h2 (fun e=>by cases e)
     have y1:wr.cell? ⟨gm,k,none⟩=some u:=(World.cell?_of_block (w:=w1) (a:=⟨gm,k,none⟩) (hst gm hgm2)).trans hu;have hiu2:ILb wr W.heap.size none u y:=hiu.keep HR2.out.gr.size (fun j h1 h2 _=>⟨hst j h2,fun e=>by cases e⟩) (aL _);have HIU:=aA hiu2.il;obtain⟨ua,uc,rfl,_,_⟩:=hiu2;have hyl:y.length<=1000000:=HBY.out y (aR hy);have hkI:(0:Int)<=(k:Int)/\(k:Int)<(M:Int):=by omega
     have HY:=aA hy;have HBA:Hid (Below wr.heap.size wr (wr.alloc (.cells #[.int .i64 (n:Int)] 3))):=(bM _ _).alloc (aL _) _;have HI1:Hid (IL (wr.alloc (.cells #[.int .i64 (n:Int)] 3)) (.slice (some ⟨wr.heap.size,0,none⟩) 1 1) [n]):=⟨_,_,rfl,by simp,.inr ⟨wr.heap.size,0,rfl,by simp,fun i x hx=>by
      cases i with
      | zero=>
       have e:n=x:=by simpa using hx
       subst e;rw[World.cell?_alloc_new]
       rfl
      | succ i=>simp at hx⟩⟩
     clear hst hu hiu hy hcm;go_upto_region 22 with fail;refine(yW (ns:=y) (ms:= [n]) (HIU.out.below HBA.out (aL _)) HI1.out (by simp;omega)).mono ?_;rintro e wc ⟨u11,rfl,hb3,ho3⟩;have hb4:Below wr.heap.size wr wc:=⟨hb3.os.trans HBA.out.os,hb3.tape.trans HBA.out.tape,hb3.output.trans HBA.out.output,aT HBA.out.size hb3.size,fun k hk=>(hb3.block k (bC hk HBA.out.size)).trans (HBA.out.block k hk)⟩
     have HR3:=aA (HR2.out.below hb4);obtain⟨vs3,hll3⟩:=HR3.out.ll;obtain⟨ao,co,eo⟩:=aK hll3.ro;subst eo;have hza:=HBA.out.size;have HIB:Hid (ILb wc W.heap.size (eS ao ((ys.take k).map (·++ [n])).length co).ownBlock u11 (y++ [n])):=ILb.of_row ho3 (fun j e=>by
      obtain⟨vs2,hll2⟩:=HR2.out.ll;exact bC (hll2.ro.lt j e).2 hza) (aT HR2.out.bl.size hza)
     obtain⟨au,cu,eu⟩:=aK ho3;subst eu;have hz3:=hb4.size;have hz4:=HR2.out.bl.size;have hzc:W.heap.size<=wc.heap.size:=by omega
     have HLL:=aA hll3;have HXL:Hid (((ys.take k).map (·++ [n])).length<=10):=by
      unfold Hid;rw[List.length_map,bT];omega
     have HXA:Hid (((ys.take k).map (·++ [n]))++ [y++ [n]]=(ys.take (k+1)).map (·++ [n])):=(uT HY.out [n]).symm;clear hll3 ho3 hb3 hb4 HI1 HBA;generalize y++ [n]=yr at*;generalize (ys.take k).map (·++ [n])=xk at*;obtain⟨nk,ek⟩:∃nk,xk.length=nk:=⟨_,rfl⟩
     obtain⟨ny,ey⟩:∃ny,yr.length=ny:=⟨_,rfl⟩
     have hnk:nk<=10:=by rw[←ek];exact HXL.out
     rw[ek]at HLL HIB HR3 ⊢;rw[ey]at HIB ⊢;have HEK:=aA ek;have HRO:=aA HLL.out.ro;rw[ek]at HRO;clear ek ey;go_wp2_with (first | (at_builtin;refine aF wc rfl (.tmp 83) (.tmp 85) 66 rfl W.heap.size 59 (.slice none 0 0) 1 24 Tryz.underlying66 Tryz.infoIntsR rfl (by decide) (by decide) (.slice ao nk co) nk vs3 [.slice au ny cu] _ rfl HRO.out _ rfl rfl rfl (by simp[eL]) (by omega) (by omega) ?_;intro g4 cap4 w4 hown4 hgrow4 hat4 hlt4;have HR4:=aA (HR3.out.app HIB.out HEK.out HLL.out hown4 hgrow4 hat4);clear hown4 hgrow4 hat4 hlt4));go_roundw
     case rel=>exact⟨k+1,by omega,by go_num,by rw[←HXA.out];exact HR4.out⟩
     case measure=>simp[intOf];omega
    ·have hkM:k=M:=by omega
     have dl:decide ((k:Int)<(M:Int))=false:=by simp;omega
     have hr3:=HR2.out;rw[hkM,←HLM.out,cF]at hr3;have HRE:=aA hr3;clear hr3 hkM HR2;go_wp2;go_ret;refine⟨_,rfl, ?_,by rw[HR.out];exact HRE.out.done.2.lower (bO hzW)⟩;exact⟨HRE.out.bl.os.trans HBW.out.os,HRE.out.bl.tape.trans HBW.out.tape,HRE.out.bl.output.trans HBW.out.output,aT HBW.out.size HRE.out.bl.size,fun k hk=>(HRE.out.bl.block k (by omega)).trans (HBW.out.block k hk)⟩
end Go.Proofs.YtgjgjgihceijnaaGreat
namespace Go.Proofs.YtgjgjgihceijnaaGreat
open Go.RowKit Go.Stn
theorem Hm {l:List LfT}{i:Nat}{x y:LfT}(h:l[i]? =some y)(he:gA y.1 y.2 x.1 x.2=true):gS l x=true:=by
 unfold gS;rw[List.any_eq_true];exact⟨y,aR h,he⟩
theorem Cx {l:List LfT}{x:LfT}(h:∀(i:Nat) (y:LfT),l[i]? =some y->gA y.1 y.2 x.1 x.2=false):gS l x=false:=by
 unfold gS;rw[List.any_eq_false];intro y hy;obtain⟨i,hi⟩:=bN hy;rw[h i y hi];decide
theorem G9 {w:World}{P:Nat->Prop}{v u:Value}{ls:List LfT}{r:Nat}{ns:List Nat}(hv:LFp w P v ls)(hu:IL w u ns)(hl:ls.length<=1000000)(hb:∀x,x∈ls->x.2.length<=1000000)(hn:ns.length<=1000000):
  Calls Tryz.prog 84 #[v,.agg #[.int .i64 (r:Int),u]] w fun e w'=>e= .returned (.bool (gS ls (r,ns)))/\Below w.heap.size w w':=by
 obtain⟨a,ca,rfl,hv⟩:=hv;have HU:=aA hu;obtain⟨b,cb,rfl,_,_⟩:=hu;obtain⟨n,en⟩:∃n,ls.length=n:=⟨_,rfl⟩
 obtain⟨m,em⟩:∃m,ns.length=m:=⟨_,rfl⟩
 rw[en]at hl ⊢;rw[em]at HU ⊢;have hm1:m<=1000000:=by omega
 have HLN:=aA en;have HLM:=aA em;have HV:=aA hv;have HBD:=aA hb;clear en em hv hb hn;have HBL:Hid (Below w.heap.size w (w.alloc (.cells #[.int .i64 (r:Int),.slice b m cb] 188))):=(bM _ _).alloc (aL _) _;have hzW:w.heap.size<(w.alloc (.cells #[.int .i64 (r:Int),.slice b m cb] 188)).heap.size:=by simp
 have a0:(w.alloc (.cells #[.int .i64 (r:Int),.slice b m cb] 188)).cell? ⟨w.heap.size,0,none⟩=some (.int .i64 (r:Int)):=(cO _ _ _ 0 rfl).trans rfl;have a1:(w.alloc (.cells #[.int .i64 (r:Int),.slice b m cb] 188)).cell? ⟨w.heap.size,1,none⟩=some (.slice b m cb):=(cO _ _ _ 1 rfl).trans rfl;go_enter Tryz.func84,Tryz.ntmps84;go_wp2_with fail;generalize w.alloc (.cells #[.int .i64 (r:Int),.slice b m cb] 188)=W at*
 go_loopw [5] (fun z wr=>∃(i:Nat),i<=n/\z= .int .i64 (i:Int)/\Hid (∀(j:Nat) (y:LfT),j<i->ls[j]? =some y->gA y.1 y.2 r ns=false)/\Below W.heap.size W wr) (fun z _=>n - (intOf z).toNat)
 case atStart=>exact⟨0,by omega,rfl,aA (fun j y hj=>absurd hj (by omega)),bM _ _⟩
 case round=>
  obtain⟨i,hi,rfl,HA,hbl⟩:=hrel;have HB:=aA hbl;have hzr:=hbl.size;have b0:=(hbl.cell (p:=⟨w.heap.size,0,none⟩) hzW).trans a0;have b1:=(hbl.cell (p:=⟨w.heap.size,1,none⟩) hzW).trans a1;by_cases hlt:i<n
  ·obtain⟨y,hy⟩:∃y,ls[i]? =some y:=⟨ls[i]'(by rw[HLN.out];exact hlt),aO _⟩
   obtain⟨g,rfl,_,hg,hc⟩:=HV.out.resolve_left (fun e=>by rw[e]at hy;simp at hy);obtain⟨q,hq,hiq⟩:=hc i y hy;have hgW:g<W.heap.size:=by have:=HBL.out.size;omega
   have y1:wr.cell? ⟨g,i*2,none⟩=some (.int .i64 (y.1:Int)):=(hbl.cell (p:=⟨g,i*2,none⟩) hgW).trans ((HBL.out.cell (p:=⟨g,i*2,none⟩) hg).trans (by have:=hq 0 _ rfl;exact this));have y2:wr.cell? ⟨g,i*2+1,none⟩=some q:=(hbl.cell (p:=⟨g,i*2+1,none⟩) hgW).trans ((HBL.out.cell (p:=⟨g,i*2+1,none⟩) hg).trans (by have:=hq 1 _ rfl;exact this));have HIQ:Hid (IL wr q y.2):=(hiq.il.below HBL.out (aL _)).below hbl (aL _);have HIU:Hid (IL wr (.slice b m cb) ns):=(HU.out.below HBL.out (aL _)).below hbl (aL _);obtain⟨qa,qc,rfl,_,_⟩:=hiq;have hyl:=HBD.out y (aR hy);have HBD2:Hid (y.2.length<=1000000/\ns.length<=1000000):=⟨hyl,by rw[HLM.out];exact hm1⟩
   have hiI:(0:Int)<=(i:Int)/\(i:Int)<(n:Int):=by omega
   have HY:=aA hy;clear hbl hq hc hy;go_upto_region 4 with fail
   go_cut [6] from 7 to 19 (fun x wx=>x= .bool (gA y.1 y.2 r ns)/\Below wr.heap.size wr wx)
   case first=>
    go_region_with (go_at_call 110;refine(Ki y.1 r (HIQ.out.below (w':=wr.drew) ⟨rfl,rfl,rfl,aL _,fun _ _=>rfl⟩ (aL _)) (HIU.out.below (w':=wr.drew) ⟨rfl,rfl,rfl,aL _,fun _ _=>rfl⟩ (aL _)) HBD2.out).mono ?_;rintro e w3 ⟨rfl,hb3⟩)
    all_goals
     have HB3:Hid (Below wr.heap.size wr w3):=⟨hb3.os,hb3.tape,hb3.output,hb3.size,hb3.block⟩
     clear hb3;go_wp2_with fail;go_meet
     case rel=>exact⟨rfl,HB3.out⟩
   case rest=>
    obtain⟨rfl,hb3⟩:=hcut;have HB3:Hid (Below W.heap.size W wc):=⟨hb3.os.trans HB.out.os,hb3.tape.trans HB.out.tape,hb3.output.trans HB.out.output,aT HB.out.size hb3.size,fun k hk=>(hb3.block k (bC hk HB.out.size)).trans (HB.out.block k hk)⟩
    clear hb3
    cases hsm:gA y.1 y.2 r ns with
    | true=>
     have HR:Hid (gS ls (r,ns)=true):=Hm HY.out hsm;clear hsm;go_wp2;go_ret;refine⟨by rw[HR.out];rfl,HB3.out.os.trans HBL.out.os,HB3.out.tape.trans HBL.out.tape,HB3.out.output.trans HBL.out.output,aT HBL.out.size HB3.out.size,fun k hk=>(HB3.out.block k (bC hk HBL.out.size)).trans (HBL.out.block k hk)⟩
    | false=>
     have HA2:Hid (∀(j:Nat) (y:LfT),j<i+1->ls[j]? =some y->gA y.1 y.2 r ns=false):=fun j z hj hz=>by
      by_cases e:j=i
      ·subst e;rw[HY.out]at hz;injection hz with hz;rw[←hz];exact hsm
      ·exact HA.out j z (by omega) hz
     clear hsm;go_wp2;go_roundw
     case rel=>exact⟨i+1,by omega,by go_num,HA2,HB3.out⟩
     case measure=>simp[intOf];omega
  ·have HR:Hid (gS ls (r,ns)=false):=Cx (fun j y hy=>HA.out j y (by have:=(bK.1 hy).1;rw[HLN.out]at this;omega) hy);have dl:decide ((i:Int)<(n:Int))=false:=by simp;omega
   go_wp2;go_ret;refine⟨by rw[HR.out];rfl,HB.out.os.trans HBL.out.os,HB.out.tape.trans HBL.out.tape,HB.out.output.trans HBL.out.output,aT HBL.out.size HB.out.size,fun k hk=>(HB.out.block k (bC hk HBL.out.size)).trans (HBL.out.block k hk)⟩
end Go.Proofs.YtgjgjgihceijnaaGreat
namespace Go.Proofs.YtgjgjgihceijnaaGreat
open Go.RowKit Go.Stn
theorem Ex {a b:List LfT}(h:a.length≠b.length):jN a b=false:=by
 unfold jN;rw[decide_eq_false h];rfl
theorem Nk {a b:List LfT}{i:Nat}{x:LfT}(hx:a[i]? =some x)(h:gS b x=false):jN a b=false:=by
 unfold jN;have:a.all (fun x=>gS b x)=false:=by
  rw[List.all_eq_false];exact⟨x,aR hx,by rw[h];decide⟩
 rw[this,Bool.and_false]
theorem Er {a b:List LfT}(hl:a.length=b.length)(h:∀(i:Nat) (x:LfT),a[i]? =some x->gS b x=true):jN a b=true:=by
 unfold jN;rw[decide_eq_true hl,Bool.true_and,List.all_eq_true];intro x hx;obtain⟨i,hi⟩:=bN hx;exact h i x hi
theorem Ek {w:World}{P Q:Nat->Prop}{v u:Value}{ls ms:List LfT}(hv:LFp w P v ls)(hu:LFp w Q u ms)(hl:ls.length<=1000000)(hl2:ms.length<=1000000)(hb:∀x,x∈ls->x.2.length<=1000000)(hb2:∀x,x∈ms->x.2.length<=1000000):
  Calls Tryz.prog 105 #[v,u] w fun e w'=>e= .returned (.bool (jN ls ms))/\Below w.heap.size w w':=by
 have HU:=aA hu;obtain⟨a,ca,rfl,hv⟩:=hv;obtain⟨b,cb,rfl,_⟩:=hu;obtain⟨n,en⟩:∃n,ls.length=n:=⟨_,rfl⟩
 obtain⟨m,em⟩:∃m,ms.length=m:=⟨_,rfl⟩
 rw[en]at hl ⊢;rw[em]at HU ⊢;have HL2:=aA hl2;have HLN:=aA en;have HLM:=aA em;have HV:=aA hv;have HBD:=aA hb;have HBD2:=aA hb2;clear en em hv hb hb2 hl2;by_cases hnm:n=m
 ·have d1:((n:Int) !=(m:Int))=false:=by rw[hnm];simp
  have HNM:=aA hnm;clear hnm;go_enter Tryz.func105,Tryz.ntmps105;go_wp2_with fail
  go_loopw [5] (fun z wr=>∃(i:Nat),i<=n/\z= .int .i64 (i:Int)/\Hid (∀(j:Nat) (y:LfT),j<i->ls[j]? =some y->gS ms y=true)/\Below w.heap.size w wr) (fun z _=>n - (intOf z).toNat)
  case atStart=>exact⟨0,by omega,rfl,aA (fun j y hj=>absurd hj (by omega)),bM _ _⟩
  case round=>
   obtain⟨i,hi,rfl,HA,hbl⟩:=hrel;have HB:=aA hbl;have hzr:=hbl.size;by_cases hlt:i<n
   ·obtain⟨y,hy⟩:∃y,ls[i]? =some y:=⟨ls[i]'(by rw[HLN.out];exact hlt),aO _⟩
    obtain⟨g,rfl,_,hg,hc⟩:=HV.out.resolve_left (fun e=>by rw[e]at hy;simp at hy);obtain⟨q,hq,hiq⟩:=hc i y hy;have y1:wr.cell? ⟨g,i*2,none⟩=some (.int .i64 (y.1:Int)):=(hbl.cell (p:=⟨g,i*2,none⟩) hg).trans (by have:=hq 0 _ rfl;exact this);have y2:wr.cell? ⟨g,i*2+1,none⟩=some q:=(hbl.cell (p:=⟨g,i*2+1,none⟩) hg).trans (by have:=hq 1 _ rfl;exact this);have HIQ:Hid (IL wr q y.2):=hiq.il.below hbl (aL _);have HIU:Hid (LFp wr Q (.slice b m cb) ms):=HU.out.below hbl;obtain⟨qa,qc,rfl,_,_⟩:=hiq;have HYL:=aA (HBD.out y (aR hy));have hiI:(0:Int)<=(i:Int)/\(i:Int)<(n:Int):=by omega
    have HY:=aA hy;clear hbl hq hc hy;go_wp2_with fail;refine(G9 (r:=y.1) (HIU.out.below (w':=wr) ⟨rfl,rfl,rfl,aL _,fun _ _=>rfl⟩) (HIQ.out.below (w':=wr) ⟨rfl,rfl,rfl,aL _,fun _ _=>rfl⟩ (aL _)) HL2.out HBD2.out HYL.out).mono ?_;rintro e w3 ⟨rfl,hb3⟩;have HB3:Hid (Below w.heap.size w w3):=⟨hb3.os.trans HB.out.os,hb3.tape.trans HB.out.tape,hb3.output.trans HB.out.output,aT HB.out.size hb3.size,fun k hk=>(hb3.block k (bC hk HB.out.size)).trans (HB.out.block k hk)⟩
    clear hb3
    cases hsm:gS ms (y.1,y.2)with
    | true=>
     have HA2:Hid (∀(j:Nat) (y:LfT),j<i+1->ls[j]? =some y->gS ms y=true):=fun j z hj hz=>by
      by_cases e:j=i
      ·subst e;rw[HY.out]at hz;injection hz with hz;rw[←hz];exact hsm
      ·exact HA.out j z (by omega) hz
     clear hsm;go_wp2;go_roundw
     case rel=>exact⟨i+1,by omega,by go_num,HA2,HB3.out⟩
     case measure=>simp[intOf];omega
    | false=>
     have HR:Hid (jN ls ms=false):=Nk HY.out hsm;clear hsm;go_wp2;go_ret;exact⟨by rw[HR.out];rfl,HB3.out⟩
   ·have HR:Hid (jN ls ms=true):=Er (by rw[HLN.out,HLM.out];exact HNM.out) (fun j y hy=>HA.out j y (by have:=(bK.1 hy).1;rw[HLN.out]at this;omega) hy);have dl:decide ((i:Int)<(n:Int))=false:=by simp;omega
    go_wp2;go_ret;exact⟨by rw[HR.out];rfl,HB.out⟩
 ·have d1:((n:Int) !=(m:Int))=true:=by rw[bne_iff_ne];omega
  have HR:Hid (jN ls ms=false):=Ex (by rw[HLN.out,HLM.out];exact hnm);clear hnm;go_enter Tryz.func105,Tryz.ntmps105;go_wp2;go_ret;exact⟨by rw[HR.out];rfl,bM _ _⟩
end Go.Proofs.YtgjgjgihceijnaaGreat
