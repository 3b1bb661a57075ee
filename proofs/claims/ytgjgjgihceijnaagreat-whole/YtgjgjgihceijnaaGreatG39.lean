import Derived.Test.YtgjgjgihceijnaaGreatG37
import Derived.Test.YtgjgjgihceijnaaGreatG32
import Derived.Deep.CutRange
open Nat renaming le_refl->aL
open List renaming length_drop->aO,drop_eq_nil_of_le->aR,mem_of_getElem?->aT,getElem?_eq_getElem->bC,append_nil->bK,length_append->bM,append_assoc->bN,length_map->bO
set_option maxRecDepth 100000
set_option maxHeartbeats 8000000
namespace Go.Proofs.YtgjgjgihceijnaaGreat
open Go.RowKit Go.Stn
theorem Tryz.infoIntsR:(Tryz.prog.info? 59).map (fun i=>(i.zero,i.size,i.bytes))=some (some (.slice none 0 0),1,24):=by kernel_rfl
def Wl (fb:Nat)(L:List NV)(gN cap c m:Nat):Prop:=∀(w:World),FR fb w L gN cap->
 Calls Tryz.prog 107 #[.pointer (some ⟨fb,0,none⟩),.int .i64 (m:Int),.int .i64 (c:Int)] w fun e w'=>∃v,e= .returned v/\Below w.heap.size w w'/\LLr w' w.heap.size v (bD (nvN L) c m)
theorem Nr {l:List Nat}{i m:Nat}(h:l[i]? =some m):l.drop i=m::l.drop (i+1):=by
 obtain⟨h1,h2⟩:=List.getElem?_eq_some_iff.1 h;rw[List.drop_eq_getElem_cons h1,h2]
theorem IL.drop {w:World}{g o n i q:Nat}{l:List Nat}(hn:l.length=n)(hg:g<w.heap.size)(h:∀(i m:Nat),l[i]? =some m->w.cell? ⟨g,o+i,none⟩=some (.int .i64 (m:Int)))(hi:i<=n)(hq:n<=q)(a:Option Addr)(ha:i<q->a=some ⟨g,o+i,none⟩):IL w (.slice a (n - i) (q - i)) (l.drop i):=by
 refine⟨a,q - i,by rw[aO,hn],by rw[aO];omega, ?_⟩;by_cases hlt:i<n
 ·refine .inr ⟨g,o+i,ha (by omega),hg,fun j m hm=> ?_⟩;rw[List.getElem?_drop]at hm;rw[Nat.add_assoc];exact h (i+j) m hm
 ·left;exact aR (by omega)
theorem uT {ys:List (List Nat)}{k:Nat}{y:List Nat}(h:ys[k]? =some y)(r:List Nat):((ys.take (k+1)).map (·++r))=((ys.take k).map (·++r))++ [y++r]:=by
 rw[List.take_add_one,h,List.map_append];rfl
theorem RI.up {w w1 wr:World}{v1 v:Value}{xs:List (List Nat)}(h:RI w w1 v1 wr v xs):RI w w (.slice none 0 0) wr v xs:=by
 obtain⟨vs,hl⟩:=h.ll;exact⟨⟨vs,hl⟩,⟨h.bl.os,h.bl.tape,h.bl.output,h.bl.size,fun k hk _=>h.bl.block k hk⟩,fun g e=> .inr (hl.ro.lt g e).1,h.bl⟩
theorem RI.done {w w1 wr:World}{v1 v:Value}{xs:List (List Nat)}(h:RI w w1 v1 wr v xs):Below w.heap.size w wr/\LLr wr w.heap.size v xs:=by
 obtain⟨vs,hl⟩:=h.ll;exact⟨h.bl,hl.read⟩
theorem Eh {fb gN cap:Nat}{L:List NV}(hs:kP (nvN L))(hc:aN (nvN L))(hL:L.length<=100000)(c:Nat){l:List Nat}(hb:∀m,m∈l->Wl fb L gN cap c m)
  (hm:∀m,m∈l->m<L.length/\(bD (nvN L) c m).length<=10/\∀y,y∈bD (nvN L) c m->y.length<=1000000) (hl:l.length<=1000000) {w:World} (h:FR fb w L gN cap) {v:Value} (hv:IL w v l):
  Calls Tryz.prog 83 #[.pointer (some ⟨fb,0,none⟩),v,.int .i64 (c:Int)] w fun e w'=>∃v',e= .returned v'/\Below w.heap.size w w'/\LLr w' w.heap.size v' (hO (bD (nvN L) c) (nvN L) l):=by
 obtain⟨a,vc,rfl,hvc,hv⟩:=hv;have HV:=aA hv;have HF:=aA h;have HB:=aA hb;have HM:=aA hm;have HE:=aA (fun m (hm:m<L.length) W=>wC (fb:=fb) (gN:=gN) (cap:=cap) hs hc hL m hm W);obtain⟨n,en⟩:∃n,l.length=n:=⟨_,rfl⟩
 rw[en]at hl hvc ⊢;have HLN:=aA en;clear h hv hb hm en hs hc;go_enter Tryz.func83,Tryz.ntmps83;go_wp2
 go_loopw [7,8] (fun y z wr=>∃(i:Nat) (xs:List (List Nat)),i<=n/\z= .int .i64 (i:Int)/\xs.length<=10*i/\Hid (hO (bD (nvN L) c) (nvN L) l=xs++hO (bD (nvN L) c) (nvN L) (l.drop i))/\RI w w (.slice none 0 0) wr y xs) (fun _ z _=>n - (intOf z).toNat)
 case atStart=>exact⟨0,[],by omega,rfl,by simp,aA (by simp),RI.start w⟩
 case round=>
  obtain⟨i,xs,hi,rfl,hxs,HX,hri⟩:=hrel;have HRI:=aA hri;clear hri;by_cases hlt:i<n
  ·obtain⟨m,hm⟩:∃m,l[i]? =some m:=⟨l[i]'(by rw[HLN.out];exact hlt),bC _⟩
   obtain⟨g,o,rfl,hg,hcell⟩:=HV.out.resolve_left (fun e=>by rw[e]at hm;simp at hm);have y0:wr.cell? ⟨g,o+i,none⟩=some (.int .i64 (m:Int)):=(HRI.out.bl.cell (p:=⟨g,o+i,none⟩) hg).trans (hcell i m hm);obtain⟨hmL,hb10,hby⟩:=HM.out m (aT hm);have hiI:(0:Int)<=(i:Int)/\(i:Int)<(n:Int):=by omega
   have HBm:=aA (HB.out m (aT hm));have HBY:=aA hby;have HMI:=aA hm;have HCL:=aA hcell;have hzw:=HRI.out.bl.size;have HX2:Hid (hO (bD (nvN L) c) (nvN L) l=(xs++(bD (nvN L) c m).map (·++l.drop (i+1)))++(if emB (nvN L) m=true then hO (bD (nvN L) c) (nvN L) (l.drop (i+1))else [])):=by
    unfold Hid;rw[HX.out,Nr hm,hO,bN]
   clear hby hm hcell HX;go_upto_region 6 with fail;refine(HBm.out _ (HF.out.below (B:=w.heap.size) ⟨HRI.out.bl.os,HRI.out.bl.tape,HRI.out.bl.output,HRI.out.bl.size,HRI.out.bl.block⟩ (aL _))).mono ?_;rintro e w1 ⟨vm,rfl,hbl1,hll1⟩;have HR1:=aA (HRI.out.below hbl1);obtain⟨am,cm,rfl,hvm⟩:=hll1;have HVM:=aA hvm;have hzw1:=hbl1.size;have hoB:Hid (∀k,wr.heap.size<=k->u7.ownBlock≠some k):=fun k hk e=>by
    obtain⟨vs,hll⟩:=HRI.out.ll;have:=(hll.ro.lt k e).2;omega
   have HEM:=aA (HE.out m hmL);clear HE HBm hvm hbl1 HRI y0;generalize wr.heap.size=sW at*;generalize hys:bD (nvN L) c m=ys at*;obtain⟨M,eM⟩:∃M,ys.length=M:=⟨_,rfl⟩
   rw[eM]at hb10 ⊢;have HLM:=aA eM;clear eM;go_wp2_with fail
   go_loopw [7,10] (fun y2 z2 wr2=>∃k,k<=M/\z2= .int .i64 (k:Int)/\RI w w1 u7 wr2 y2 (xs++(ys.take k).map (·++l.drop (i+1)))) (fun _ z2 _=>M - (intOf z2).toNat)
   case atStart=>exact⟨0,by omega,rfl,by rw[List.take_zero,List.map_nil,bK];exact HR1.out.from⟩
   case round=>
    obtain⟨k,hk,rfl,hri2⟩:=hrel;have HR2:=aA hri2;clear hri2;by_cases hkl:k<M
    ·obtain⟨y,hy⟩:∃y,ys[k]? =some y:=⟨ys[k]'(by rw[HLM.out];exact hkl),bC _⟩
     obtain⟨gm,rfl,hgm1,hgm2,hcm⟩:=HVM.out.resolve_left (fun e=>by rw[e]at hy;simp at hy);obtain⟨u,hu,hiu⟩:=hcm k y hy;have hst:∀j,sW<=j->j<w1.heap.size->wr.heap[j]? =w1.heap[j]? :=fun j h1 h2=>HR2.out.gr.block j h2 (fun e=>hoB.out j h1 e.symm)
     have y1:wr.cell? ⟨gm,k,none⟩=some u:=(World.cell?_of_block (w:=w1) (a:=⟨gm,k,none⟩) (hst gm hgm1 hgm2)).trans hu;have hiu2:ILb wr sW none u y:=hiu.keep HR2.out.gr.size (fun j h1 h2 _=>⟨hst j h1 h2,fun e=>by cases e⟩) (aL _);have HIU:=aA hiu2.il;obtain⟨ua,uc,rfl,_,_⟩:=hiu2;have HRS:Hid (∀(a:Option Addr),(i+1<vc->a=some ⟨g,o+(i+1),none⟩)->IL wr (.slice a (n - (i+1)) (vc - (i+1))) (l.drop (i+1))):=fun a ha=>IL.drop HLN.out (Nat.lt_of_lt_of_le hg HR2.out.bl.size) (fun j x hx=>(HR2.out.bl.cell (p:=⟨g,o+j,none⟩) hg).trans (HCL.out j x hx)) (by omega) hvc a ha
     have HRS0:Hid (vc=i+1->∀(a:Option Addr) (q:Nat),IL wr (.slice a (n - (i+1)) q) (l.drop (i+1))):=fun e a q=>⟨a,q,by rw[aO,HLN.out],by rw[aO,HLN.out];omega,.inl (aR (by rw[HLN.out];omega))⟩
     have hyl:y.length<=1000000:=HBY.out y (aT hy);have HDL:Hid (y.length+(l.drop (i+1)).length<=1000000000):=by unfold Hid;rw[aO,HLN.out];omega
     have hkI:(0:Int)<=(k:Int)/\(k:Int)<(M:Int):=by omega
     have hiI2:(0:Int)<=(i:Int)+1/\(i:Int)+1<=(n:Int):=by omega
     have HY:=aA hy;clear hst hu hiu hy hcm;go_upto_region 9 with fail
     go_cut [11] from 26 to 44 (fun x wx=>Below wr.heap.size wr wx/\wx.ownsRow wr.heap.size 3 1 x (y++l.drop (i+1)).length (dP (y++l.drop (i+1))))
     case first=>
      have wi:IntKind.i64.wrap ((i:Int)+1)=(i:Int)+1:=IntWalk.i64_in _ (by omega);have ti:((i:Int)+1).toNat=i+1:=by omega
      by_cases hvi:vc=i+1
      ·have hif:∀(x y:Option Addr),(if vc=i+1 then x else y)=x:=fun x y=>if_pos hvi
       have HVI:=aA hvi;clear hvi;go_region_with (go_at_call 108;refine(yW (ns:=y) (ms:=l.drop (i+1)) (HIU.out.below (w':=wr.drew) ⟨rfl,rfl,rfl,aL _,fun _ _=>rfl⟩ (aL _)) ((HRS0.out HVI.out _ _).below (w':=wr.drew) ⟨rfl,rfl,rfl,aL _,fun _ _=>rfl⟩ (aL _)) HDL.out).mono ?_;rintro e w3 ⟨v',rfl,hb3,ho3⟩)
       all_goals
        have HB3:Hid (Below wr.heap.size wr w3):=⟨hb3.os,hb3.tape,hb3.output,hb3.size,hb3.block⟩
        have HO3:=aA ho3;clear hb3 ho3;go_wp2_with fail;go_meet
        case rel=>exact⟨HB3.out,HO3.out⟩
      ·
       go_region_with (go_at_call 108;refine(yW (ns:=y) (ms:=l.drop (i+1)) (HIU.out.below (w':=wr.drew) ⟨rfl,rfl,rfl,aL _,fun _ _=>rfl⟩ (aL _)) ((HRS.out _ (fun h=>rfl)).below (w':=wr.drew) ⟨rfl,rfl,rfl,aL _,fun _ _=>rfl⟩ (aL _)) HDL.out).mono ?_;rintro e w3 ⟨v',rfl,hb3,ho3⟩)
       all_goals
        have HB3:Hid (Below wr.heap.size wr w3):=⟨hb3.os,hb3.tape,hb3.output,hb3.size,hb3.block⟩
        have HO3:=aA ho3;clear hb3 ho3;go_wp2_with fail;go_meet
        case rel=>exact⟨HB3.out,HO3.out⟩
     case rest=>
      obtain⟨hb3,ho3⟩:=hcut;have HR3:=aA (HR2.out.below hb3);obtain⟨vs3,hll3⟩:=HR3.out.ll;obtain⟨ao,co,eo⟩:=aK hll3.ro;subst eo;have HIB:Hid (ILb wc w.heap.size (Value.slice ao (xs++(ys.take k).map (·++l.drop (i+1))).length co).ownBlock u11 (y++l.drop (i+1))):=ILb.of_row ho3 (fun j e=>by
       obtain⟨vs2,hll2⟩:=HR2.out.ll;exact(hll2.ro.lt j e).2) HR2.out.bl.size
      obtain⟨au,cu,eu⟩:=aK ho3;subst eu;have hz3:=hb3.size;have hz4:=HR2.out.bl.size;have hzc:w.heap.size<=wc.heap.size:=by omega
      have HLL:=aA hll3;have HXL:Hid ((xs++(ys.take k).map (·++l.drop (i+1))).length<=10*i+10):=by
       unfold Hid;rw[bM,bO,List.length_take];omega
      have HXA:Hid ((xs++(ys.take k).map (·++l.drop (i+1)))++ [y++l.drop (i+1)]=xs++(ys.take (k+1)).map (·++l.drop (i+1))):=by
       unfold Hid;rw[uT HY.out,bN]
      clear hll3 ho3 hb3;generalize y++l.drop (i+1)=yr at*;generalize xs++(ys.take k).map (·++l.drop (i+1))=xk at*;obtain⟨nk,ek⟩:∃nk,xk.length=nk:=⟨_,rfl⟩
      obtain⟨ny,ey⟩:∃ny,yr.length=ny:=⟨_,rfl⟩
      have hnk:nk<=10*i+10:=by rw[←ek];exact HXL.out
      rw[ek]at HLL HIB HR3 ⊢;rw[ey]at HIB ⊢;have HEK:=aA ek;have HRO:=aA HLL.out.ro;rw[ek]at HRO;clear ek ey;go_wp2_with (first | (at_builtin;refine aF wc rfl (.tmp 41) (.tmp 43) 66 rfl w.heap.size 59 (.slice none 0 0) 1 24 Tryz.underlying66 Tryz.infoIntsR rfl (by decide) (by decide) (.slice ao nk co) nk vs3 [.slice au ny cu] _ rfl HRO.out _ rfl rfl rfl (by simp[Value.oneCell']) (by omega) (by omega) ?_;intro g4 cap4 w4 hown4 hgrow4 hat4 hlt4;have HR4:=aA (HR3.out.app HIB.out HEK.out HLL.out hown4 hgrow4 hat4);clear hown4 hgrow4 hat4 hlt4));go_roundw
      case rel=>exact⟨k+1,by omega,by go_num,by rw[←HXA.out];exact HR4.out⟩
      case measure=>simp[intOf];omega
    ·have hkM:k=M:=by omega
     have dl:decide ((k:Int)<(M:Int))=false:=by simp;omega
     have hr3:=HR2.out;rw[hkM,←HLM.out,List.take_length]at hr3;have HR3:=aA hr3;have y0:wr.cell? ⟨g,o+i,none⟩=some (.int .i64 (m:Int)):=(HR3.out.bl.cell (p:=⟨g,o+i,none⟩) hg).trans (HCL.out i m HMI.out);have HXN:Hid ((xs++ys.map (·++l.drop (i+1))).length<=10*(i+1)):=by
      unfold Hid;rw[bM,bO,HLM.out];omega
     clear hr3 hkM HR2;generalize xs++ys.map (·++l.drop (i+1))=xn at*;go_wp2_with fail;refine(HEM.out _ (HF.out.below (B:=w.heap.size) ⟨HR3.out.bl.os,HR3.out.bl.tape,HR3.out.bl.output,HR3.out.bl.size,HR3.out.bl.block⟩ (aL _))).mono ?_;rintro e w5 ⟨rfl,hb5⟩;have HR5:=aA (HR3.out.below ⟨hb5.os,hb5.tape,hb5.output,hb5.size,hb5.block⟩).up;clear hb5 y0 HR3
     cases hem:emB (nvN L) m with
     | true=>
      rw[hem,if_pos rfl]at HX2;clear hem;go_wp2;go_roundw
      case rel=>exact⟨i+1,xn,by omega,by go_num,HXN.out,HX2,HR5.out⟩
      case measure=>simp[intOf];omega
     | false=>
      rw[hem,if_neg (by decide),bK]at HX2;clear hem;go_wp2;go_ret;exact⟨_,rfl,by rw[HX2.out];exact HR5.out.done⟩
  ·have hin:i=n:=by omega
   have HXE:Hid (hO (bD (nvN L) c) (nvN L) l=xs):=by
    unfold Hid;rw[HX.out,aR (by rw[HLN.out];omega)];unfold hO;rw[bK]
   have dl:decide ((i:Int)<(n:Int))=false:=by simp;omega
   clear hin;go_wp2;go_ret;exact⟨_,rfl,by rw[HXE.out];exact HRI.out.done⟩
end Go.Proofs.YtgjgjgihceijnaaGreat
