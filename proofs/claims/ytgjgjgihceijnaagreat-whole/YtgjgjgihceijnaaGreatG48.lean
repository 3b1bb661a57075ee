import Derived.Test.YtgjgjgihceijnaaGreatG47
import Derived.Test.YtgjgjgihceijnaaGreatG42
import Derived.Test.YtgjgjgihceijnaaGreatG45
import Derived.Test.YtgjgjgihceijnaaGreatG02
import Derived.Test.YtgjgjgihceijnaaGreatG24
import Derived.Deep.AppendLies
import Derived.BigRegion
open UInt8 renaming ofNat->aL
open List renaming append_assoc->aO,getElem?_eq_getElem->aR,append_nil->bK,getD_eq_getElem?_getD->bM,length_append->bN,mem_of_getElem?->bO,getElem?_map->bT,map_append->cN,length_map->cO
open Go.World renaming cell?_of_block->aT
open Nat renaming le_refl->bC,zero_add->bS
open Go.Value renaming oneCell'->a9,int->cL,ownBlock->cP,slice->cT
open Go.RowKit.Below renaming heap_alloc->cF
set_option maxRecDepth 100000
set_option maxHeartbeats 8000000
namespace Go.Proofs.YtgjgjgihceijnaaGreat
open Go.RowKit Go.Stn
structure WJ (w2 w:World)(g cap:Nat)(acc:List UInt8)(g2:Nat)(fi:List Nat):Prop where
 wi:WI w2 w g cap acc
 c:∀(i v:Nat),fi[i]? =some v->w.cell? ⟨g2,i,none⟩=some (.int .i64 (v:Int))
 ne:g≠g2
 lt:g2<w.heap.size
theorem WJ.app {w2 w w4:World}{g cap g4 cap4 g2:Nat}{acc:List UInt8}{fi:List Nat}(h:WJ w2 w g cap acc g2 fi){o:Obj}{n:Nat}(hn:n<256)(hown:w4.ownsRow w2.heap.size 5 1 (.slice (some ⟨g4,0,none⟩) (acc.length+1) cap4) (acc.length+1) (iH acc++ [.int .u8 (n:Int)]))(hgrow:(w.alloc o).grownBy w4 (some g))(hat:(cT (some ⟨g,0,none⟩) acc.length cap).ownBlock=some g4\/g4=w.heap.size+1):
  WJ w2 w4 g4 cap4 (acc++ [aL n]) g2 fi:=by
 have hlt:=h.lt;have hne:=h.ne;have hsz:=hgrow.size;have ez:(w.alloc o).heap.size=w.heap.size+1:=by simp
 have hb:w4.heap[g2]? =w.heap[g2]? :=(hgrow.block g2 (by omega) (fun e=>hne (by injection e with e;omega))).trans (cF w o g2 hlt);refine⟨h.wi.app hn hown hgrow,fun i v hv=>(aT (w:=w) (a:=⟨g2,i,none⟩) hb).trans (h.c i v hv), ?_,by omega⟩;rcases hat with e | e
 ·have:g=g4:=by simpa[cP]using e
  omega
 ·omega
theorem Lo:∀(fin:List Nat),fin.map aL=flr fin.length (fun b=>[aL (fin.getD b 0)]):=by
 intro fin;have:∀k,k<=fin.length->(fin.take k).map aL=flr k (fun b=>[aL (fin.getD b 0)]):=by
  intro k
  induction k with
  | zero=>intro _;rfl
  | succ k ih=>
   intro hk;rw[iC,←ih (by omega),List.take_add_one,aR (by omega),cN,bM,aR (by omega)]
   rfl
 have:=this fin.length (bC _);rw[List.take_length]at this;exact this
theorem WI.appL {w2 w:World}{g cap:Nat}{acc:List UInt8}(h:WI w2 w g cap acc){ops:Array Oper}{rest:List Oper}{o:Oper}{a:Act}{Q:Exit->Act->World->Prop}(hgd:o.guard=none)(s x:Operand)
  (ho:o.op= .call {callee:= .builtin .append,args:= #[s,x],argTypes:= #[116,116]})
  (n cn:Nat) (hn1:acc.length=n) (hs:a.eval s= .slice (some ⟨g,0,none⟩) n cap) (gx cx m:Nat) (fin:List Nat) (hm:fin.length=m) (hx:a.eval x= .slice (some ⟨gx,0,none⟩) m cx) (hlt:∀v∈fin,v<256) (hc:∀(i v:Nat),fin[i]? =some v->w.cell? ⟨gx,i,none⟩=some (.int .u8 (v:Int))) (hn:n<=cn) (hcn:cn+m<=1000000) (h0:0<m)
  (hh:∀g4 cap4 w4 n4,n4=n+m->WI w2 w4 g4 cap4 (acc++fin.map aL)->w.grownBy w4 (some g)->(some g=some g4\/g4=w.heap.size)->wpList Tryz.prog ops Q rest (a.put o.dst (.slice (some ⟨g4,0,none⟩) n4 cap4)) w4):wpList Tryz.prog ops Q (o::rest) a w:=by
 obtain⟨i,hi,hz,hsize,hb⟩:=info_parts Tryz.infoByte;subst hn1 hm;refine wpList_append_lies w hgd s x 116 ho w2.heap.size 5 i (.int .u8 0) 1 1 Tryz.underlying116 hi hz hsize hb rfl (by decide) (.slice (some ⟨g,0,none⟩) acc.length cap) acc.length (iH acc) hs h.rw ⟨gx,0,none⟩ fin.length cx (fin.map (fun(v:Nat)=>cL .u8 (v:Int))) hx (by simp) (fun j y hy=> ?_) (fun y hy=> ?_) (by omega) (by unfold maxLen;omega) (by omega) h.bl.size w.heap.size rfl (fun g4 cap4 w4 h1 h2 h3 _=> ?_)
 ·rw[iL,bS];rw[bT]at hy
  cases e:fin[j]? with
  | none=>rw[e]at hy;cases hy
  | some v=>
   rw[e]at hy;injection hy with hy;rw[←hy];exact hc j v e
 ·obtain⟨m,_,rfl⟩:=List.mem_map.1 hy
  rfl
 ·refine hh g4 cap4 w4 _ rfl ⟨h.bl.grown h2 h.bl.size (fun k hk=>(show g=k by simpa[cP]using hk) ▸ (h.rw.lt g rfl).1), ?_⟩ h2 h3;have e:iH (acc++fin.map aL)=iH acc++fin.map (fun(v:Nat)=>cL .u8 (v:Int)):=by
   unfold iH;rw[cN,List.map_map];congr 1;exact List.map_congr_left (fun v hv=>by show cL .u8 _=_;rw[xL (hlt v hv)])
  rw[e,bN,cO];exact h1
theorem V7 {fb gR cR g m cap:Nat}{R:List RV}{ns:Nat->Nat}{of:Nat->Nat->Int}{tr:Nat->Nat->Nat->Int}{ru:List ((Nat->Bool)×Int×Int)}{w:World}(hr:FRu fb w R gR cR)(c3:w.cell? ⟨fb,3,none⟩=some (.int .i64 (m:Int)))(hT:TsV w g m ns of tr)(hm:m<=4)(hns:∀c,c<m->ns c<=100)(hR:R.length<=8)
  (hth:∀x∈R,x.c=46\/x.c=45\/(65<=x.c/\x.c<69)) (hru:ru.length=R.length) (hrb:∀(k:Nat) (x:RV),R[k]? =some x->mR ru k=sT x.c) (hof:∀c s,c<m->s<ns c-> -1<=of c s/\of c s<8) (htr:∀c s b,c<m->s<ns c->b<256->tr c s b= -1\/(0<=tr c s b/\tr c s b<(ns c:Int))):
  Calls Tryz.prog 23 #[.pointer (some ⟨fb,0,none⟩),.slice (some ⟨g,0,none⟩) m cap] w fun e w'=>e= .returned (.string ⟨(wrL ru m 256 (fun b=>b) ns (fun c=>mkF (of c)) tr).toArray⟩)/\Below w.heap.size w w':=by
 have HCL:=aA (fun(W:World) (hB:Below w.heap.size w W)=>Y3 (cap:=cap) (hT.below hB (bC _)) (by omega) (fun c hc=>by have:=hns c hc;omega));obtain⟨f1,f2,f3,f4,f5⟩:=vK (fQ ns tr m) 256;have hf5:=f5 (by omega);have HL:Hid (wrL ru m 256 (fun b=>b) ns (fun c=>mkF (of c)) tr=mI ru++flr ru.length (fun k=>[aL (mR ru k)])
  ++ [aL m,aL ((gB 256 (fQ ns tr m)).2.length - 1)]++flr 256 (fun b=>[aL ((gB 256 (fQ ns tr m)).1.getD b 0)])
  ++flr m (fun c=>[aL (ns c)]++flr (ns c) (stB (fun c=>mkF (of c)) tr (gB 256 (fQ ns tr m)).2 c))):=rfl
 have HBF:Hid (flr 256 (fun b=>[aL ((gB 256 (fQ ns tr m)).1.getD b 0)])=(gB 256 (fQ ns tr m)).1.map aL):=by
  unfold Hid;rw[Lo,f1]
 rw[HBF.out]at HL;clear HBF;generalize wrL ru m 256 (fun b=>b) ns (fun c=>mkF (of c)) tr=RES at*;generalize (gB 256 (fQ ns tr m)).1=co at*;generalize (gB 256 (fQ ns tr m)).2=fi at*;obtain⟨nR,enR⟩:∃n,R.length=n:=⟨_,rfl⟩
 have k1:=hr.c1;have b0:=hr.b0;rw[enR]at k1 hR hru;rw[hru]at HL;have HA0:Hid (mI ru= [aL 83,aL 84,aL 1,aL nR]):=by unfold Hid mI;rw[hru]
 have HRU:=aA hr;have HT:=aA hT;have HNS:=aA hns;have HTH:=aA hth;have HRB:=aA hrb;have HOF:=aA hof;have HTR:=aA htr;have HF1:=aA f1;have HF3:=aA f3;have HF4:=aA f4;have HNR:=aA enR;have HWN:=aA (WI.new w (m:=nR) (by omega));rw[←HA0.out]at HWN;have hA4:(mI ru).length=4:=rfl;clear hr hT hns hth hru hrb hof htr f1 f3 f4 f5 enR HA0;go_enter Tryz.func23,Tryz.ntmps23;go_upto_region 2 with fail;generalize w.alloc (.cells #[.int .u8 83,.int .u8 84,.int .u8 1,.int .u8 (nR:Int)] 5)=W0 at*;generalize mI ru=A0 at*;replace hA4:=aA hA4;go_wp2_with fail
 go_loopg [5,6] nR (fun gk iv kv wr=>∃(k g cap:Nat) (acc:List UInt8),iv= .slice (some ⟨g,0,none⟩) acc.length cap/\kv= .int .i64 (k:Int)/\k+gk=nR/\acc.length=4+k/\acc=A0++flr k (fun k=>[aL (mR ru k)])/\WI w wr g cap acc)
 case atStart=>exact⟨0,w.heap.size,4,A0,by rw[hA4.out],rfl,by omega,hA4.out,(bK _).symm,HWN.out⟩
 case round=>
  obtain⟨k,g1,icap,acc,rfl,rfl,hkm,hal,hac,hwi⟩:=hrel;have HAL:=aA hal;have HAC:=aA hac;have HWI:=aA hwi;have hzw:=hwi.bl.size;have k1r:=(hwi.bl.cell (p:=⟨fb,1,none⟩) b0).trans k1;have c3r:=(hwi.bl.cell (p:=⟨fb,3,none⟩) b0).trans c3;clear hal hac hwi HWN;by_cases hlt:k<nR
  ·obtain⟨d,rfl⟩:∃d,gk=d+1:=⟨gk - 1,by omega⟩
   have hx:=aR (l:=R) (i:=k) (by rw[HNR.out];exact hlt);obtain⟨x,ex⟩:∃x,R[k]'(by rw[HNR.out];exact hlt)=x:=⟨_,rfl⟩
   rw[ex]at hx;have hxc:=HTH.out x (bO hx);have y0:wr.cell? ⟨gR,k*3+1,none⟩=some (.int .u8 (x.c:Int)):=((HRU.out.below HWI.out.bl (bC _)).rl k x hx).1 1 _ rfl;have HBK:=aA (HRB.out k x hx);have HTN:=aA (fun W=>Ml x.c W hxc);have htn:sT x.c<256:=by unfold sT;split;omega;split<;> omega
   generalize x.c=xc at*;generalize sT xc=bn at*;have hd1:decide ((k:Int)<(nR:Int))=true:=by simp;omega
   have hkI:(0:Int)<=(k:Int)/\(k:Int)<(nR:Int):=by omega
   clear hx ex hxc;go_wp2_with fail;refine(HTN.out _).mono ?_;rintro e w3 ⟨rfl,q,hw3⟩;have HW3:Hid (WI w w3 g1 icap acc):=by unfold Hid;rw[hw3];exact HWI.out.below ⟨rfl,rfl,rfl,bC _,fun _ _=>rfl⟩
   have hz3:=HW3.out.bl.size;clear hw3 HWI HTN y0 k1r c3r;go_wp2_with (first | (at_builtin;refine aF w3 rfl (.tmp 39) (.tmp 41) 116 rfl w.heap.size 5 (.int .u8 0) 1 1 Tryz.underlying116 Tryz.infoByte rfl (by decide) (by decide) (.slice (some ⟨g1,0,none⟩) acc.length icap) acc.length (iH acc) [.int .u8 (bn:Int)] _ rfl HW3.out.rw _ rfl rfl rfl (by simp[a9]) (by have:=HAL.out;omega) (by omega) ?_;intro g4 cap4 w4 hown4 hgrow4 hat4 hlt4;have HW6:=aA (HW3.out.app htn hown4 hgrow4);clear hown4 hgrow4 hat4));go_roundg d
   case measure=>omega
   case rel=>exact⟨k+1,g4,cap4,acc++ [aL bn],by simp,by go_num,by omega,by rw[bN,HAL.out];rfl,by rw[iC,←aO,←HAC.out,HBK.out],HW6.out⟩
  ·have e:gk=0:=by omega
   subst e;have e:k=nR:=by omega
   subst e;have hd1:decide ((k:Int)<(k:Int))=false:=by simp
   have HL2:Hid (RES=acc++ [aL m,aL (fi.length - 1)]++co.map aL++flr m (fun c=>[aL (ns c)]++flr (ns c) (stB (fun c=>mkF (of c)) tr fi c))):=by
    unfold Hid;rw[HL.out,HAC.out]
   obtain⟨FL,hFL⟩:∃q,fi.length=q:=⟨_,rfl⟩
   rw[hFL]at HL2 f2 hf5;obtain⟨L,rfl⟩:∃L,FL=L+1:=⟨FL - 1,by omega⟩
   rw[Nat.add_sub_cancel]at HL2;have hw2:((L+1:Nat):Int) - 1=(L:Int):=by omega
   have hg1:=(HWI.out.rw.lt g1 rfl).2;have HB0:=aA HWI.out.bl;clear HAC HL;go_wp2_with fail;refine(HCL.out _ HB0.out).mono ?_;rintro e w3 ⟨vx,vy,rfl,hc2⟩;have o1:=hc2.o1;have o2:=hc2.o2;rw[HF1.out]at o1;rw[hFL]at o2;have hz3:=hc2.bl.size;obtain⟨gx,cx,ex⟩:∃gx cx,vx= .slice (some ⟨gx,0,none⟩) 256 cx:=by
    rcases bZ o1 with e | ⟨g2,cap2,e⟩
    ·obtain⟨a,c,e2⟩:=aK o1;rw[e]at e2;injection e2 with _ e3 _;omega
    ·exact⟨g2,cap2,e⟩
   obtain⟨gy,cy,ey⟩:∃gy cy,vy= .slice (some ⟨gy,0,none⟩) (L+1) cy:=by
    rcases bZ o2 with e | ⟨g2,cap2,e⟩
    ·obtain⟨a,c,e2⟩:=aK o2;rw[e]at e2;injection e2 with _ e3 _;omega
    ·exact⟨g2,cap2,e⟩
   subst ex ey;have hgx:=o1.lt gx rfl;have hgy:=o2.lt gy rfl;have HCX:Hid (∀(i v:Nat),co[i]? =some v->w3.cell? ⟨gx,i,none⟩=some (.int .u8 (v:Int))):=fun i v hv=>by
    have:=o1.cells (g:=gx) rfl i (.int .u8 (v:Int)) (by unfold zA;rw[bT,hv];rfl);rw[iL,bS]at this;exact this
   have HCY:Hid (∀(i v:Nat),fi[i]? =some v->w3.cell? ⟨gy,i,none⟩=some (.int .i64 (v:Int))):=fun i v hv=>by
    have:=o2.cells (g:=gy) rfl i _ (kI hv);rw[iL,bS]at this;exact this
   have HW3:=aA (HWI.out.below hc2.bl);have c33:=(hc2.bl.cell (p:=⟨fb,3,none⟩) (by show fb<wr.heap.size;omega)).trans c3r;have hfw:fb<w3.heap.size:=by omega
   have HFL:=aA hFL;clear hc2 o1 o2 HWI HB0 HCL c3r hFL;go_upto_region 9 with(first | (at_builtin;refine A8 w3 rfl (.tmp 48) (.tmp 58) 116 rfl w.heap.size 5 (.int .u8 0) 1 1 Tryz.underlying116 Tryz.infoByte rfl (by decide) (by decide) (.slice (some ⟨g1,0,none⟩) acc.length icap) acc.length (iH acc) [.int .u8 (m:Int),.int .u8 (L:Int)] _ rfl HW3.out.rw _ rfl rfl rfl (by simp[a9]) (by have:=HAL.out;omega) (by omega) ?_;intro g4 cap4 w4 hown4 hgrow4 hat4 hlt4;have HW4:=aA (HW3.out.app2 (show m<256 by omega) (show L<256 by omega) hown4 hgrow4);have HGR:=aA hgrow4;have HAT:=aA hat4;clear hown4 hgrow4 hat4))
   have HK4:Hid (∀k,k<w3.heap.size->k≠g1->w4.heap[k]? =w3.heap[k]?):=fun k hk hne=>(HGR.out.block k (Nat.lt_of_lt_of_le hk (by simp)) (fun e=>hne (Option.some.inj e))).trans (cF w3 _ k hk)
   have hz4:w3.heap.size+1<=w4.heap.size:=by have:=HGR.out.size;simp at this;omega
   have HG4:Hid (g4=g1\/g4=w3.heap.size+1):=HAT.out.imp (fun h=>(Option.some.inj h).symm) id;have HCX4:Hid (∀(i v:Nat),co[i]? =some v->w4.cell? ⟨gx,i,none⟩=some (.int .u8 (v:Int))):=fun i v hv=>(aT (w:=w3) (a:=⟨gx,i,none⟩) (HK4.out gx hgx.2 (by omega))).trans (HCX.out i v hv)
   have HCY4:Hid (∀(i v:Nat),fi[i]? =some v->w4.cell? ⟨gy,i,none⟩=some (.int .i64 (v:Int))):=fun i v hv=>(aT (w:=w3) (a:=⟨gy,i,none⟩) (HK4.out gy hgy.2 (by omega))).trans (HCY.out i v hv)
   have hg4y:g4≠gy:=by rcases HG4.out with e | e<;> omega
   have HA6:Hid ((acc++ [aL m,aL L]).length=acc.length+2):=by unfold Hid;simp
   have hA6:(acc++ [aL m,aL L]).length<=300:=by rw[HA6.out,HAL.out];omega
   rw[←HA6.out];generalize acc++ [aL m,aL L]=A1 at*;obtain⟨N1,eN1⟩:∃n,A1.length=n:=⟨_,rfl⟩
   rw[eN1]at hA6 ⊢;have HN1:=aA eN1;have HCO:Hid (∀v∈co,v<256):=fun v hv=>by have:=HF4.out v hv;rw[HFL.out]at this;omega
   clear HAL HA6 HCX HCY HK4 HGR HAT HG4 HW3 eN1;go_upto_region 10 with(first | (at_builtin;refine HW4.out.appL rfl (.tmp 60) (.tmp 61) rfl N1 300 HN1.out rfl gx cx 256 co HF1.out rfl HCO.out HCX4.out hA6 (by omega) (by omega) ?_;intro g5 cap5 w5 n5 hn5 hwi5 hgr5 hat5;have HW5:=aA hwi5;have HN5:=aA hn5;have HGR5:=aA hgr5;have HAT5:=aA hat5;clear hn5 hwi5 hgr5 hat5))
   have HJ5:Hid (WJ w w5 g5 cap5 (A1++co.map aL) gy fi):=⟨HW5.out,fun i v hv=>(aT (w:=w4) (a:=⟨gy,i,none⟩) (HGR5.out.block gy (by omega) (fun e=>hg4y (Option.some.inj e).symm))).trans (HCY4.out i v hv),by
    rcases HAT5.out with e | e
    ·have:=Option.some.inj e;omega
    ·omega,by have:=HGR5.out.size;omega⟩
   have HA7:Hid ((A1++co.map aL).length=n5):=by unfold Hid;rw[bN,cO,HF1.out,HN1.out,HN5.out]
   have hA7:n5<=600:=by have:=HN5.out;omega
   have HL3:Hid (RES=(A1++co.map aL)++flr m (fun c=>[aL (ns c)]++flr (ns c) (stB (fun c=>mkF (of c)) tr fi c))):=HL2.out;rw[←HA7.out];rw[←HA7.out]at hA7;generalize A1++co.map aL=A2 at*;clear HW4 HW5 HA7 HL2 HN5 HGR5 HAT5 HCX4 HCY4;obtain⟨CB,hCB⟩:∃f:Nat->List UInt8,(fun c=>[aL (ns c)]++flr (ns c) (stB (fun c=>mkF (of c)) tr fi c))=f:=⟨_,rfl⟩
   have HCB:Hid (∀c,CB c= [aL (ns c)]++flr (ns c) (stB (fun c=>mkF (of c)) tr fi c)):=fun c=>by rw[←hCB]
   rw[hCB]at HL3;clear hCB;go_wp2_with fail
   go_loopg [5,10] m (fun gk iv kv wr=>∃(c g cap:Nat) (acc:List UInt8),iv= .slice (some ⟨g,0,none⟩) acc.length cap/\kv= .int .i64 (c:Int)/\c+gk=m/\acc.length<=1000+c*100000/\acc=A2++flr c CB/\WJ w wr g cap acc gy fi)
   case atStart=>exact⟨0,g5,cap5,A2,rfl,rfl,by omega,by omega,(bK _).symm,HJ5.out⟩
   case round=>
    obtain⟨c,g1,icap,acc,rfl,rfl,hkm3,hal,hac,hwj⟩:=hrel;have HAC:=aA hac;have HWJ:=aA hwj;have hzw:=hwj.wi.bl.size;clear hac hwj HJ5;by_cases hlt3:c<m
    ·obtain⟨d,rfl⟩:∃d,gk=d+1:=⟨gk - 1,by omega⟩
     obtain⟨v1,v2,k1',k2',g1a,c1a,g2a,c2a,rwa,e1,e2,⟨b1a,b2a,b3a⟩,k4a,k5a,k6a⟩:=HT.out.t c hlt3;subst e1 e2;have hgb:=HT.out.b;have k1c:=(HWJ.out.wi.bl.cell (p:=⟨g,c*2,none⟩) hgb).trans k1';have hNb:=HNS.out c hlt3;have hCBc:=HCB.out c;have HK4:=aA k4a;have HK5:=aA k5a;have HK6:=aA k6a;have HB3:=aA b3a;have HOFc:Hid (∀s,s<ns c-> -1<=of c s/\of c s<8):=fun s hs=>HOF.out c s hlt3 hs
     have HTRc:Hid (∀s b,s<ns c->b<256->tr c s b= -1\/(0<=tr c s b/\tr c s b<(ns c:Int))):=fun s b hs hb=>HTR.out c s b hlt3 hs hb
     obtain⟨N,hN⟩:∃N,ns c=N:=⟨_,rfl⟩
     rw[hN]at k1c k1' k2' hNb hCBc HK4 HK5 HK6 HB3 HOFc HTRc;have HST:Hid (∀X,acc++ [aL N]++flr N (stB (fun c=>mkF (of c)) tr fi c)=X->X=A2++flr (c+1) CB):=fun X hX=>by
      rw[←hX,iC,←aO,←HAC.out,hCBc,aO]
     have hd3:decide ((c:Int)<(m:Int))=true:=by simp;omega
     have hcI:(0:Int)<=(c:Int)/\(c:Int)<(m:Int):=by omega
     clear hCBc HAC k4a k5a k6a b3a hN;go_upto_region 14 with(first | (at_builtin;refine aF wr rfl (.tmp 69) (.tmp 77) 116 rfl w.heap.size 5 (.int .u8 0) 1 1 Tryz.underlying116 Tryz.infoByte rfl (by decide) (by decide) (.slice (some ⟨g1,0,none⟩) acc.length icap) acc.length (iH acc) [.int .u8 (N:Int)] _ rfl HWJ.out.wi.rw _ rfl rfl rfl (by simp[a9]) (by omega) (by omega) ?_;intro g5 cap5 w5 hown5 hgrow5 hat5 hlt5;have HW7:=aA (HWJ.out.app (show N<256 by omega) hown5 hgrow5 hat5);clear hown5 hgrow5 hat5))
     have HA3':Hid ((acc++ [aL N]).length=acc.length+1):=by unfold Hid;simp
     have hA3:(acc++ [aL N]).length<=1001+c*100000:=by rw[HA3'.out];omega
     rw[←HA3'.out];generalize acc++ [aL N]=A3 at*;clear HWJ HA3' k1c;go_wp2_with fail
     go_loopg [5,11] N (fun gk iv kv wr=>∃(s g cap:Nat) (acc:List UInt8),iv= .slice (some ⟨g,0,none⟩) acc.length cap/\kv= .int .i64 (s:Int)/\s+gk=N/\acc.length<=1001+c*100000+s*300/\acc=A3++flr s (stB (fun c=>mkF (of c)) tr fi c)/\WJ w wr g cap acc gy fi)
     case atStart=>exact⟨0,g5,cap5,A3,rfl,rfl,by omega,by omega,(bK _).symm,HW7.out⟩
     case round=>
      obtain⟨s,g1,icap,acc,rfl,rfl,hkm4,hal4,hac,hwj⟩:=hrel;have HAC:=aA hac;have HWJ:=aA hwj;have hzw:=hwj.wi.bl.size;have k1s:=(hwj.wi.bl.cell (p:=⟨g,c*2,none⟩) hgb).trans k1';clear hac hwj HW7;by_cases hlt4:s<N
      ·obtain⟨ds,rfl⟩:∃d,gk=d+1:=⟨gk - 1,by omega⟩
       have hov:=HOFc.out s hlt4;have k4s:=(HWJ.out.wi.bl.cell (p:=⟨g1a,s,none⟩) b1a).trans (HK4.out s hlt4);have k5s:=HK5.out s hlt4;have HK6s:Hid (∀b,b<256->w.cell? ⟨rwa s,b,none⟩=some (.int .i64 (tr c s b))):=fun b hb=>HK6.out s b hlt4 hb
       have hrs:=HB3.out s hlt4;have HTRs:Hid (∀b,b<256->tr c s b= -1\/(0<=tr c s b/\tr c s b<(N:Int))):=fun b hb=>HTRc.out s b hlt4 hb
       have HSB:Hid (stB (fun c=>mkF (of c)) tr fi c s= [aL (of c s+1).toNat]++flr fi.length (fun i=>[aL (ldB (tr c s (fi.getD i 0)))])):=rfl;rw[HFL.out]at HSB;generalize of c s=ov at*;obtain⟨tk,etk⟩:∃tk:Nat,(ov+1).toNat=tk:=⟨_,rfl⟩
       rw[etk]at HSB;have hov1:ov+1=(tk:Int):=by omega
       have htk:tk<256:=by omega
       have HST2:Hid (∀X,acc++ [aL tk]++flr (L+1) (fun i=>[aL (ldB (tr c s (fi.getD i 0)))])=X->X=A3++flr (s+1) (stB (fun c=>mkF (of c)) tr fi c)):=fun X hX=>by
        rw[←hX,iC s,←aO,←HAC.out,HSB.out,aO]
       have hd4:decide ((s:Int)<(N:Int))=true:=by simp;omega
       have hsI:(0:Int)<=(s:Int)/\(s:Int)<(N:Int):=by omega
       generalize tr c s=trs at*;generalize rwa s=rws at*;clear HSB HAC etk;go_upto_region 18 with(first | (at_builtin;refine aF wr rfl (.tmp 89) (.tmp 100) 116 rfl w.heap.size 5 (.int .u8 0) 1 1 Tryz.underlying116 Tryz.infoByte rfl (by decide) (by decide) (.slice (some ⟨g1,0,none⟩) acc.length icap) acc.length (iH acc) [.int .u8 (tk:Int)] _ rfl HWJ.out.wi.rw _ rfl rfl rfl (by simp[a9]) (by omega) (by omega) ?_;intro g6 cap6 w6 hown6 hgrow6 hat6 hlt6;have HW8:=aA (HWJ.out.app htk hown6 hgrow6 hat6);clear hown6 hgrow6 hat6))
       have HA4':Hid ((acc++ [aL tk]).length=acc.length+1):=by unfold Hid;simp
       have hA4:(acc++ [aL tk]).length<=1002+c*100000+s*300:=by rw[HA4'.out];omega
       rw[←HA4'.out];generalize acc++ [aL tk]=A4 at*;clear HWJ HA4' k1s k4s hov1 hov;go_wp2_with fail
       go_loopg [5,12] (L+1) (fun gk iv kv wr=>∃(i g cap:Nat) (acc:List UInt8),iv= .slice (some ⟨g,0,none⟩) acc.length cap/\kv= .int .i64 (i:Int)/\i+gk=L+1/\acc.length<=1002+c*100000+s*300+i/\acc=A4++flr i (fun i=>[aL (ldB (trs (fi.getD i 0)))])/\WJ w wr g cap acc gy fi)
       case atStart=>exact⟨0,g6,cap6,A4,rfl,rfl,by omega,hA4,(bK _).symm,HW8.out⟩
       case round=>
        obtain⟨i,g1,icap,acc,rfl,rfl,hkm5,hal5,hac,hwj⟩:=hrel;have HAC:=aA hac;have HWJ:=aA hwj;have hzw:=hwj.wi.bl.size;clear hac hwj HW8;by_cases hlt5:i<L+1
        ·obtain⟨di,rfl⟩:∃d,gk=d+1:=⟨gk - 1,by omega⟩
         have hfi:=aR (l:=fi) (i:=i) (by rw[HFL.out];exact hlt5);obtain⟨v,ev⟩:∃v,fi[i]'(by rw[HFL.out];exact hlt5)=v:=⟨_,rfl⟩
         rw[ev]at hfi;have hv:=HF3.out v (bO hfi);have c8:=HWJ.out.c i v hfi;have hgd:fi.getD i 0=v:=by rw[bM,hfi];rfl
         have HST3:Hid (A4++flr (i+1) (fun i=>[aL (ldB (trs (fi.getD i 0)))])=acc++ [aL (ldB (trs v))]):=by
          unfold Hid;rw[iC i,←aO,←HAC.out,hgd]
         have c7:=(HWJ.out.wi.bl.cell (p:=⟨rws,v,none⟩) hrs).trans (HK6s.out v hv);have k2i:=(HWJ.out.wi.bl.cell (p:=⟨g,c*2+1,none⟩) hgb).trans k2';have k5i:=(HWJ.out.wi.bl.cell (p:=⟨g2a,s,none⟩) b2a).trans k5s;have hx:=HTRs.out v hv;have hlb:ldB (trs v)<256:=by unfold ldB;split<;> omega
         have hvI:(0:Int)<=(v:Int)/\(v:Int)<(256:Int):=by omega
         have hd5:decide ((i:Int)<((L+1:Nat):Int))=true:=by simp;omega
         have hiI:(0:Int)<=(i:Int)/\(i:Int)<((L+1:Nat):Int):=by omega
         have HLB:Hid (ldB (trs v)=if trs v= -1 then 255 else(trs v).toNat % 256):=rfl;generalize trs v=xv at*;obtain⟨lb,elb⟩:∃lb,ldB xv=lb:=⟨_,rfl⟩
         rw[elb]at hlb HST3 HLB;have HNX:Hid (∀g8 cap8 w8,WJ w w8 g8 cap8 (acc++ [aL lb]) gy fi->∃(i' g cap:Nat) (acc':List UInt8),cT (some ⟨g8,0,none⟩) (acc.length+1) cap8= .slice (some ⟨g,0,none⟩) acc'.length cap/\cL .i64 ((i+1:Nat):Int)= .int .i64 (i':Int)/\i'+di=L+1/\acc'.length<=1002+c*100000+s*300+i'/\acc'=A4++flr i' (fun i=>[aL (ldB (trs (fi.getD i 0)))])/\WJ w w8 g cap acc' gy fi):=fun g8 cap8 w8 h8=>⟨i+1,g8,cap8,acc++ [aL lb],by simp,rfl,by omega,by simp;omega,HST3.out.symm,h8⟩
         clear hfi ev hgd elb;rcases hx with hx | hx
         ·have e:lb=255:=by rw[HLB.out,if_pos hx]
          subst e;subst hx;clear HLB;go_upto_region 21 with fail;go_big_region
          all_goals
           go_wp2_with (first | (at_builtin;refine aF wr.drew rfl (.tmp 124) (.tmp 127) 116 rfl w.heap.size 5 (.int .u8 0) 1 1 Tryz.underlying116 Tryz.infoByte rfl (by decide) (by decide) (.slice (some ⟨g1,0,none⟩) acc.length icap) acc.length (iH acc) [.int .u8 255] _ rfl (HWJ.out.wi.below (w':=wr.drew) ⟨rfl,rfl,rfl,bC _,fun _ _=>rfl⟩).rw _ rfl rfl rfl (by simp[a9]) (by omega) (by exact hzw) ?_;intro g8 cap8 w8 hown8 hgrow8 hat8 hlt8;have HW9:=aA (WJ.app (w:=wr.drew) ⟨HWJ.out.wi.below ⟨rfl,rfl,rfl,bC _,fun _ _=>rfl⟩,HWJ.out.c,HWJ.out.ne,HWJ.out.lt⟩ (show 255<256 by omega) hown8 hgrow8 hat8);clear hown8 hgrow8 hat8));go_roundg di
           case measure=>omega
           case rel=>exact HNX.out _ _ _ HW9.out
         ·have e:lb=xv.toNat:=by rw[HLB.out,if_neg (by omega),Nat.mod_eq_of_lt (by omega)]
          obtain⟨xn,rfl⟩:∃xn:Nat,xv=(xn:Int):=⟨xv.toNat,by omega⟩
          rw[Int.toNat_natCast]at e;subst e;have hd6:decide ((lb:Int)<(0:Int))=false:=by simp
          clear HLB hx;go_upto_region 21 with fail;go_big_region
          all_goals
           go_wp2_with (first | (at_builtin;refine aF wr.drew rfl (.tmp 124) (.tmp 127) 116 rfl w.heap.size 5 (.int .u8 0) 1 1 Tryz.underlying116 Tryz.infoByte rfl (by decide) (by decide) (.slice (some ⟨g1,0,none⟩) acc.length icap) acc.length (iH acc) [.int .u8 (lb:Int)] _ rfl (HWJ.out.wi.below (w':=wr.drew) ⟨rfl,rfl,rfl,bC _,fun _ _=>rfl⟩).rw _ rfl rfl rfl (by simp[a9]) (by omega) (by exact hzw) ?_;intro g8 cap8 w8 hown8 hgrow8 hat8 hlt8;have HW9:=aA (WJ.app (w:=wr.drew) ⟨HWJ.out.wi.below ⟨rfl,rfl,rfl,bC _,fun _ _=>rfl⟩,HWJ.out.c,HWJ.out.ne,HWJ.out.lt⟩ hlb hown8 hgrow8 hat8);clear hown8 hgrow8 hat8));go_roundg di
           case measure=>omega
           case rel=>exact HNX.out _ _ _ HW9.out
        ·have e:gk=0:=by omega
         subst e;have e:i=L+1:=by omega
         subst e;have hd5:decide (((L+1:Nat):Int)<((L+1:Nat):Int))=false:=by simp
         have HE:=aA (HST2.out acc HAC.out.symm);go_wp2_with fail;go_roundg ds
         case measure=>omega
         case rel=>exact⟨s+1,g1,icap,acc,rfl,by go_num,by omega,by omega,HE.out,HWJ.out⟩
      ·have e:gk=0:=by omega
       subst e;have e:s=N:=by omega
       subst e;have hd4:decide ((s:Int)<(s:Int))=false:=by simp
       have HE:=aA (HST.out acc HAC.out.symm);go_wp2_with fail;go_roundg d
       case measure=>omega
       case rel=>exact⟨c+1,g1,icap,acc,rfl,by go_num,by omega,by omega,HE.out,HWJ.out⟩
    ·have e:gk=0:=by omega
     subst e;have e:c=m:=by omega
     subst e;have hd3:decide ((c:Int)<(c:Int))=false:=by simp
     have HE:Hid (RES=acc):=by unfold Hid;rw[HL3.out,HAC.out]
     go_wp2_with (first | (refine Tryz.wpText rfl (.tmp 129) rfl HWJ.out.wi rfl ?_));go_ret;exact⟨by rw[HE.out];rfl,HWJ.out.wi.bl⟩
end Go.Proofs.YtgjgjgihceijnaaGreat
