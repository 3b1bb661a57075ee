import Derived.Test.YtgjgjgihceijnaaGreatG53
import Derived.Test.YtgjgjgihceijnaaGreatG37
import Derived.Test.YtgjgjgihceijnaaGreatG14
import Derived.Test.YtgjgjgihceijnaaGreatG02
import Derived.Test.YtgjgjgihceijnaaGreatG06
import Derived.Test.YtgjgjgihceijnaaGreatG04
import Derived.Deep.RegionHeld3
import Derived.Deep.RegionWith
import Derived.Test.YtgjgjgihceijnaaGreatG15
open List renaming getElem?_eq_getElem->aL,length_append->aO,getElem?_eq_none->a9,length_map->bS
open Nat renaming le_refl->aR,add_sub_cancel->bO
open Go.World renaming ownsRow_nil->aT
open ByteArray renaming size_extract->bC
open Go.Value renaming oneCell'->bK
open Array renaming length_toList->bM
open Go.RowKit.Below renaming refl->bN
open Bool renaming eq_iff_iff->bT
set_option maxRecDepth 100000
set_option maxHeartbeats 8000000
namespace Go.Proofs.YtgjgjgihceijnaaGreat
open Go.RowKit Go.Stn
theorem Nh {inp:ByteArray}{p q:Nat}(hq:q<=inp.size)(hp:p<=q):seg (inp.extract p q) 0 (inp.extract p q).size=seg inp p q:=by
 have hz:(inp.extract p q).size=q - p:=by rw[bC];omega
 rw[hz];unfold seg;rw[Nat.sub_zero];refine List.map_congr_left (fun i hi=> ?_);rw[Nat.zero_add];exact rQ hq (List.mem_range.1 hi)
theorem Bs (t inp:ByteArray)(hin:inp.size<=300){ls:List fM}(hR:lV t=(some ls,0)){s:ByteArray}(him:mC (ls.map toX) s)(w:World):
  Calls Tryz.prog 11 #[.string t,.string inp] w fun e w'=>∃v,e= .returned (.tuple #[v,.bool true])/\Bh w' w'.heap.size v (rC s inp 0).1/\Below w.heap.size w w':=by
 obtain⟨hp0,hfx,hn10,hsz,hln⟩:=(vM t).2 ls 0 hR;obtain⟨o1,o2,o3⟩:=lY hfx;rw[bS]at o2 o3;obtain⟨m1,m4,_,_⟩:=mP (ls.map toX) o1 (by rw[xB];exact hn10);have HRA:=aA (fun w=>P7 t w);have HLK:=aA (xS hln);have HR:=aA hR;have HIM:=aA him;have hM:=him.fm;have hRn:=him.fr;rw[bS]at hRn;clear hR him hp0 hfx hsz hln o1;go_enter Tryz.func11,Tryz.ntmps11;go_wp2_with fail;refine(HRA.out _).mono ?_;intro e w1 h1;unfold lO at h1;rw[HR.out]at h1;obtain⟨hb,fb,O,L,vN,vR,R,rfl,hfb,hfn,hok,hrm,h3⟩:=h1;have hRl:=hrm.1;have hLp:0<L.length:=by
  have h1:0<R.length:=by omega
  obtain⟨_,_,_,k⟩:=hrm.2 0 _ _ (aL h1) (aL (by omega));have:=k.1;rw[dQ]at this;omega
 obtain⟨gN,cN,_,hFR⟩:=hfn.read hLp;obtain⟨gR,cR,hFU⟩:=hfn.rules hrm (by omega);have hfp:=Sq hrm hok hfn.cl o3 hn10 h3;have k1:=hFU.c1;have hfz:=hfn.wt.2;have HB1:=aA hb;have HTK:Hid (∀(W:World) (c:Nat) (x:ByteArray),Below w1.heap.size w1 W->c<4->0<x.size->x.size<=1000->Calls Tryz.prog 26 #[.pointer (some ⟨fb,0,none⟩),.string x,.int .i64 (c:Int)] W fun e w'=>e= .returned (.int .i64 (eJ (nvN L) (jQ (nvN L) (gG c 0 R) (seg x 0 x.size))))/\Below W.heap.size W w'):=fun W c x hB hc h0 h1=>V9 hfp hc (by omega) h3 (hFR.below hB (aR _)) (hFU.below hB (aR _)) x h0 h1
 have HAT:Hid (∀(c p d:Nat),c<aU (ls.map toX)->0<d->sL s inp c p d=if eJ (nvN L) (jQ (nvN L) (gG c 0 R) (seg inp p (p+d)))= -1 then none else some (eJ (nvN L) (jQ (nvN L) (gG c 0 R) (seg inp p (p+d)))).toNat):=fun c p d hc hd=>Uu hrm hfp HIM.out hc hd
 have HGE:Hid (∀(c p d:Nat), -1<=eJ (nvN L) (jQ (nvN L) (gG c 0 R) (seg inp p (p+d)))):=fun c p d=>Dg _ _
 have HRC:Hid (∀r,r<ls.length->∃xc:Nat,w1.cell? ⟨gR,r*3+1,none⟩=some (.int .u8 (xc:Int))/\(xc=46\/xc=45\/(65<=xc/\xc<69))/\fE s r=sT xc):=fun r hr=>by
  have hr2:r<R.length:=by omega
  have hy:=aL hr;have hx:=aL hr2;obtain⟨_,_,k3,_⟩:=hrm.2 r _ _ hx hy;have hlo:=HLK.out _ (List.getElem_mem hr);refine⟨(R[r]'hr2).c,(hFU.rl r _ hx).1 1 _ rfl,by rw[k3];exact hlo.th, ?_⟩;have e1:=HIM.out.fb r (toX (ls[r]'hr)) (by rw[List.getElem?_map,hy];rfl);have e1:(fE s r:Int)=sK (ls[r]'hr).2.2.1:=e1;have e2:=(Kd hlo).1;rw[k3];omega
 have hgR:=hFU.b1;rw[hRl]at k1;have hzb:=hb.size;clear hb hfn hok hrm hFR hFU hfp hLp HR HRA hRl;generalize aU (ls.map toX)=M at*;generalize ls.length=nl at*;obtain⟨n,en⟩:∃n,inp.size=n:=⟨_,rfl⟩
 have HN:=aA en;have HCUT:Hid ((rC s inp 0).1=(vV s inp (n+1) 0 0 [] 0 []).1):=by unfold Hid rC;rw[en]
 obtain⟨RES,eRES⟩:∃R,(rC s inp 0).1=R:=⟨_,rfl⟩
 rw[eRES]at HCUT;have HQR:=aA eRES;clear eRES;have HLC:Hid (∀c p,c<M->p<=n->lng s inp c p=(-1,p)\/∃r q:Nat,lng s inp c p=((r:Int),q)/\r<nl/\p<q/\q<=n):=fun c p hc hp=>by
  have:=yG (inp:=inp) HIM.out.ok (c:=c) (p:=p) (by omega) (by omega);rw[hRn,en]at this;exact this
 have HTL:Hid (∀r,r<nl->fE s r<=1+M):=fun r hr=>by have:=uI HIM.out.ok (r:=r) (by omega);omega
 have HLG:Hid (∀c p,lng s inp c p=qC s inp c p (n - p)):=fun c p=>by unfold lng;rw[en]
 clear HIM hM hRn;rw[en]at hin;have HXN:=HN.out;go_wp2_with fail
 go_loopg [8,9,10] (n+1) (fun gk ov cv pv wr=>∃(p c nn:Nat) (H T:List (Int×Int×Int)),wr.ownsRow w1.heap.size 79 3 ov T.length (dZ T)/\cv= .int .i64 (c:Int)/\pv= .int .i64 (p:Int)/\p<=n/\n - p<gk/\c<M/\T.length<=p/\Hid (RES=(vV s inp gk p c H nn T).1)/\Below w1.heap.size w1 wr)
 case atStart=>exact⟨0,0,0,[],[],aT _ _ _ 3,rfl,rfl,by omega,by omega,by omega,by simp,HCUT.out,bN _ _⟩
 case round=>
  obtain⟨p,c,nn,H,T,hrow,rfl,rfl,hpn,hgk,hcM,hTp,HRES,hbr⟩:=hrel;have HROW:=aA hrow;have HBR:=aA hbr;have hzr:=hbr.size;obtain⟨av,cv,ev⟩:=aK hrow;subst ev;obtain⟨nT,eT⟩:∃q,T.length=q:=⟨_,rfl⟩
  rw[eT]at HROW hTp ⊢;have HNT:=aA eT;obtain⟨d,rfl⟩:∃d,gk=d+1:=⟨gk - 1,by omega⟩
  clear hrow hbr eT;by_cases hlt:p<n
  ·have hd1:decide ((p:Int)<(n:Int))=true:=by simp;omega
   have hlt':p<inp.size:=by omega
   have HNONE:Hid (lng s inp c p=(-1,p)->RES=T++ [(-1,(p:Int),(p:Int))]):=fun e=>by rw[HRES.out,zN hlt' e]
   have HSOME:Hid (∀r q:Nat,lng s inp c p=((r:Int),q)->RES=(vV s inp d q (if 1<fE s r then fE s r - 2 else c) (H++(eW s inp c H p).1) (nn+(eW s inp c H p).2) (if fE s r=1 then T else T++ [((r:Int),(p:Int),(q:Int))])).1):=fun r q e=>by rw[HRES.out,zP hlt' e]
   have HLGp:=aA (HLG.out c p);have HLCp:=aA (HLC.out c p hcM hpn);have HATp:Hid (∀d,0<d->sL s inp c p d=if eJ (nvN L) (jQ (nvN L) (gG c 0 R) (seg inp p (p+d)))= -1 then none else some (eJ (nvN L) (jQ (nvN L) (gG c 0 R) (seg inp p (p+d)))).toNat):=fun d hd=>HAT.out c p d hcM hd
   clear hlt';go_wp2_with fail
   go_loopg [11,12] (n - p) (fun gj rv qv wj=>Below w1.heap.size w1 wj/\wj.ownsRow w1.heap.size 79 3 (.slice av nT cv) T.length (dZ T)/\((rv= .int .i64 (-1)/\qv= .int .i64 ((p+1+gj:Nat):Int)/\p+gj<=n/\Hid (lng s inp c p=qC s inp c p gj))\/(gj=0/\∃rn q:Nat,rv= .int .i64 (rn:Int)/\qv= .int .i64 (q:Int)/\rn<nl/\p<q/\q<=n/\Hid (lng s inp c p=((rn:Int),q)))))
   case atStart=>exact⟨HBR.out,by rw[HNT.out];exact HROW.out,.inl ⟨rfl,by go_num,by omega,HLGp.out⟩⟩
   case round=>
    obtain⟨hbj,hrj,hcase⟩:=hrel;have HBJ:=aA hbj;have HRJ:=aA hrj;have hzj:=hbj.size;rw[HNT.out]at HRJ;clear hbj hrj HROW HBR;rcases hcase with⟨rfl,rfl,hpg,HLN⟩ | ⟨rfl,rn,q,rfl,rfl,hrn,hpq,hqn,HLN⟩
    ·by_cases hg0:gk=0
     ·subst hg0;have HE:=aA (HNONE.out (HLN.out.trans rfl));have hd2:decide (((p:Int)+1)<((p+1+0:Nat):Int))=false:=by simp
      have HROW2:Hid (wr.ownsRow w1.heap.size 79 3 (.slice av nT cv) nT (dZ T)):=HRJ.out;clear HRJ;go_wp2_with (first | (at_builtin;refine aF wr rfl (.tmp 48) (.tmp 52) 29 rfl w1.heap.size 79 (.agg #[.int .i64 0,.int .i64 0,.int .i64 0]) 3 24 Tryz.underlying29 Tryz.infoToken rfl (by decide) (by decide) (.slice av nT cv) nT (dZ T) [.int .i64 (-1),.int .i64 (p:Int),.int .i64 (p:Int)] _ rfl HROW2.out _ rfl rfl rfl (by simp[bK]) (by omega) (by omega) ?_;intro g4 cap4 w4 hown4 hgrow4 hat4 hlt4;have HB4:=aA (iA HBJ.out HROW2.out hgrow4);have HO4:=aA hown4;clear hown4 hgrow4 hat4 hlt4));go_ret2;exact⟨_,rfl,by rw[HQR.out,HE.out];have:=HO4.out;rw[←tF T (-1,(p:Int),(p:Int))]at this;exact rS this,HB1.out.trans (HB4.out.mono hzb)⟩
     ·obtain⟨e,rfl⟩:∃e,gk=e+1:=⟨gk - 1,by omega⟩
      have hd2:decide (((p:Int)+1)<((p+1+(e+1):Nat):Int))=true:=by simp;omega
      have hq:p+1+e<=inp.size:=by omega
      have hzx:(inp.extract p (p+1+e)).size=e+1:=by rw[bC];omega
      have htk:=HTK.out wr c (inp.extract p (p+1+e)) HBJ.out (by omega) (by omega) (by omega);rw[Nh hq (by omega)]at htk;have HT:=aA htk;have hat:=HATp.out (e+1) (by omega);have hge:=HGE.out c p (e+1);have HPE:Hid (p+(e+1)=p+1+e):=by unfold Hid;omega
      rw[HPE.out]at hge;have hat:sL s inp c p (e+1)=if eJ (nvN L) (jQ (nvN L) (gG c 0 R) (seg inp p (p+1+e)))= -1 then none else some (eJ (nvN L) (jQ (nvN L) (gG c 0 R) (seg inp p (p+1+e)))).toNat:=by rw[hat,HPE.out]
      generalize eJ (nvN L) (jQ (nvN L) (gG c 0 R) (seg inp p (p+1+e)))=v at*;clear htk hzx;go_wp2_with fail;refine HT.out.mono ?_;rintro e3 w3 ⟨rfl,hb3⟩;have HB3:=aA (dO HBJ.out hb3);have HR3:=aA (cV HRJ.out (fun k hk=>hb3.block k (HRJ.out.lt k hk).2));clear hb3 HRJ HT;by_cases hv:v= -1
      ·subst hv;rw[if_pos rfl]at hat;have HLN2:Hid (lng s inp c p=qC s inp c p e):=HLN.out.trans (E7 hat);clear hat;go_wp2;go_roundg e
       case measure=>omega
       case rel=>exact⟨HB3.out,by rw[HNT.out];exact HR3.out,.inl ⟨rfl,by go_num,by omega,HLN2⟩⟩
      ·rw[if_neg hv]at hat;obtain⟨vn,rfl⟩:∃vn:Nat,v=(vn:Int):=⟨v.toNat,by omega⟩
       rw[Int.toNat_natCast]at hat;have HLN2:Hid (lng s inp c p=((vn:Int),p+1+e)):=by
        have:=HLN.out.trans (G0 hat);unfold Hid;rw[this,HPE.out]
       have hvn:vn<nl:=by
        rcases HLCp.out with e1 | ⟨r,q,e1,e2,_⟩
        ·rw[HLN2.out]at e1;injection e1 with e1 _;omega
        ·rw[HLN2.out]at e1;injection e1 with e1 _;omega
       clear hat hv hge;go_wp2;go_roundg 0
       case measure=>omega
       case rel=>exact⟨HB3.out,by rw[HNT.out];exact HR3.out,.inr ⟨rfl,vn,p+1+e,rfl,by go_num,hvn,by omega,by omega,HLN2⟩⟩
    ·obtain⟨xc,y0,hxc,hth⟩:=HRC.out rn hrn;have HNX:=aA (HSOME.out rn q HLN.out);have htl:=HTL.out rn hrn;have y0r:=(HBJ.out.cell (p:=⟨gR,rn*3+1,none⟩) hgR).trans y0;have k1r:=(HBJ.out.cell (p:=⟨fb,1,none⟩) hfz).trans k1;have hd3:((rn:Int)== -1)=false:=by rw[beq_eq_false_iff_ne];omega
     have hrI:(0:Int)<=(rn:Int)/\(rn:Int)<(nl:Int):=by omega
     have HCO:=aA (fun W=>pR xc W (by omega));clear y0 HSOME HNONE;rcases hxc with rfl | rfl | hxc
     ·have e0:fE s rn=0:=hth;rw[e0,if_neg (by omega),if_neg (by omega)]at HNX;have ec:cH 46= -1:=rfl;rw[ec]at HCO;have HROW2:=aA HRJ.out;clear HRJ hth e0 ec;go_wp2_with (first
       | (at_builtin;refine aF wr rfl (.tmp 64) (.tmp 69) 29 rfl w1.heap.size 79 (.agg #[.int .i64 0,.int .i64 0,.int .i64 0]) 3 24 Tryz.underlying29 Tryz.infoToken rfl (by decide) (by decide) (.slice av nT cv) nT (dZ T) [.int .i64 (rn:Int),.int .i64 (p:Int),.int .i64 (q:Int)] _ rfl HROW2.out _ rfl rfl rfl (by simp[bK]) (by omega) (by omega) ?_;intro g4 cap4 w4 hown4 hgrow4 hat4 hlt4;have HB4:=aA (iA HBJ.out HROW2.out hgrow4);have HO4:=aA hown4;clear hown4 hgrow4 hat4 hlt4)
       | (go_at_call 27;refine(HCO.out _).mono ?_;rintro e5 w5 ⟨rfl,y5,hw5⟩;have HB5:Hid (Below w1.heap.size w1 w5):=(by unfold Hid;rw[hw5];exact⟨HB4.out.os,HB4.out.tape,HB4.out.output,HB4.out.size,HB4.out.block⟩);have HO5:Hid (w5.ownsRow w1.heap.size 79 3 (.slice (some ⟨g4,0,none⟩) (nT+1) cap4) (nT+1) (dZ T++ [.int .i64 (rn:Int),.int .i64 (p:Int),.int .i64 (q:Int)])):=(by unfold Hid;rw[hw5];exact HO4.out);clear hw5))
      go_roundg d
      case measure=>omega
      case rel=>exact⟨q,c,_,_,T++ [((rn:Int),(p:Int),(q:Int))],by rw[aO,HNT.out,tF];exact HO5.out,rfl,rfl,hqn,by omega,hcM,by rw[aO,HNT.out];simp;omega,HNX,HB5.out⟩
     ·have e0:fE s rn=1:=hth;rw[e0,if_neg (by omega),if_pos rfl]at HNX;have ec:cH 45= -1:=rfl;rw[ec]at HCO;clear hth e0 ec;go_wp2_with (first
       | (go_at_call 27;refine(HCO.out _).mono ?_;rintro e5 w5 ⟨rfl,y5,hw5⟩;have HB5:Hid (Below w1.heap.size w1 w5):=(by unfold Hid;rw[hw5];exact⟨HBJ.out.os,HBJ.out.tape,HBJ.out.output,HBJ.out.size,HBJ.out.block⟩);have HO5:Hid (w5.ownsRow w1.heap.size 79 3 (.slice av nT cv) nT (dZ T)):=(by unfold Hid;rw[hw5];exact HRJ.out);clear hw5))
      go_roundg d
      case measure=>omega
      case rel=>exact⟨q,c,_,_,T,by rw[HNT.out];exact HO5.out,rfl,rfl,hqn,by omega,hcM,by rw[HNT.out];omega,HNX,HB5.out⟩
     ·have e0:fE s rn=xc - 65+2:=by rw[hth];unfold sT;rw[if_neg (by omega),if_neg (by omega)]
      obtain⟨x4,rfl⟩:∃x4,xc=x4+65:=⟨xc - 65,by omega⟩
      rw[bO]at e0;rw[e0,if_pos (by omega),if_neg (by omega),bO]at HNX;have ec:cH (x4+65)=(x4:Int):=by unfold cH;rw[if_pos hxc];omega
      rw[ec]at HCO;have hx4:x4<M:=by omega
      have hd5:(((x4+65:Nat):Int) !=45)=true:=by rw[bne_iff_ne];omega
      have hd6:decide ((0:Int)<=(x4:Int))=true:=by simp
      have HROW2:=aA HRJ.out;have hx256:x4+65<256:=by omega
      clear HRJ hth e0 ec hxc;generalize x4+65=xc at*;go_wp2_with (first
       | (at_builtin;refine aF wr rfl (.tmp 64) (.tmp 69) 29 rfl w1.heap.size 79 (.agg #[.int .i64 0,.int .i64 0,.int .i64 0]) 3 24 Tryz.underlying29 Tryz.infoToken rfl (by decide) (by decide) (.slice av nT cv) nT (dZ T) [.int .i64 (rn:Int),.int .i64 (p:Int),.int .i64 (q:Int)] _ rfl HROW2.out _ rfl rfl rfl (by simp[bK]) (by omega) (by omega) ?_;intro g4 cap4 w4 hown4 hgrow4 hat4 hlt4;have HB4:=aA (iA HBJ.out HROW2.out hgrow4);have HO4:=aA hown4;clear hown4 hgrow4 hat4 hlt4)
       | (go_at_call 27;refine(HCO.out _).mono ?_;rintro e5 w5 ⟨rfl,y5,hw5⟩;have HB5:Hid (Below w1.heap.size w1 w5):=(by unfold Hid;rw[hw5];exact⟨HB4.out.os,HB4.out.tape,HB4.out.output,HB4.out.size,HB4.out.block⟩);have HO5:Hid (w5.ownsRow w1.heap.size 79 3 (.slice (some ⟨g4,0,none⟩) (nT+1) cap4) (nT+1) (dZ T++ [.int .i64 (rn:Int),.int .i64 (p:Int),.int .i64 (q:Int)])):=(by unfold Hid;rw[hw5];exact HO4.out);clear hw5))
      go_roundg d
      case measure=>omega
      case rel=>exact⟨q,x4,_,_,T++ [((rn:Int),(p:Int),(q:Int))],by rw[aO,HNT.out,tF];exact HO5.out,rfl,rfl,hqn,by omega,hx4,by rw[aO,HNT.out];simp;omega,HNX,HB5.out⟩
  ·have hd1:decide ((p:Int)<(n:Int))=false:=by simp;omega
   have HE:Hid (RES=T):=by unfold Hid;rw[HRES.out,I1 (by omega)]
   go_wp2;go_ret2;exact⟨_,rfl,by rw[HQR.out,HE.out];exact rS HROW.out,HB1.out.trans (HBR.out.mono hzb)⟩
end Go.Proofs.YtgjgjgihceijnaaGreat
namespace Go.Proofs.YtgjgjgihceijnaaGreat
open Go.RowKit Go.Stn
end Go.Proofs.YtgjgjgihceijnaaGreat
namespace Go.Stn
def pW (s inp:ByteArray):List (Int×Int×Int)×Nat×Int:=
 if 120000<s.size\/300<inp.size then([],0,1)else if fV s=true then((rC s inp 0).1,(rC s inp 0).2.1,0)else([],0,5)
def gA (a b:List (Int×Int×Int)):Bool:=decide (a=b)
end Go.Stn
namespace Go.Proofs.YtgjgjgihceijnaaGreat
open Go.RowKit Go.Stn
theorem Al {w:World}{base base':Nat}{e:TypeId}{size:Nat}{v:Value}{n:Nat}{xs:List Value}(h:w.ownsRow base e size v n xs)(hb:base'<=base):w.ownsRow base' e size v n xs:=by
 refine⟨h.1, ?_⟩;rcases h.2 with hn | ⟨g,cap,cur,hv,hbg,rest⟩
 ·exact .inl hn
 ·exact .inr ⟨g,cap,cur,hv,by omega,rest⟩
end Go.Proofs.YtgjgjgihceijnaaGreat
namespace Go.Proofs.YtgjgjgihceijnaaGreat
open Go.RowKit Go.Stn
theorem Gf (s inp:ByteArray)(w:World):
  Calls Tryz.prog 10 #[.string s,.string inp] w fun e w'=>
   ∃v,e= .returned (.tuple #[v,.int .i64 (pW s inp).2.1,.int .i64 (pW s inp).2.2])/\w'.ownsRow w.heap.size 79 3 v (pW s inp).1.length (dZ (pW s inp).1)/\Below w.heap.size w w':=by
 by_cases hl:300<inp.size
 ·have hr:pW s inp=([],0,1):=by unfold pW;rw[if_pos (.inr hl)]
  rw[hr];clear hr;have hd:decide ((300:Int)<(inp.size:Int))=true:=by simp;omega
  go_enter Tryz.func10,Tryz.ntmps10;go_wp2;go_ret3;exact⟨_,rfl,aT w w.heap.size 79 3,bN _ _⟩
 ·have hd:decide ((300:Int)<(inp.size:Int))=false:=by simp;omega
  by_cases hok:s.size<=120000/\fV s=true
  ·have hr:pW s inp=((rC s inp 0).1,(rC s inp 0).2.1,0):=by unfold pW;rw[if_neg (by omega),if_pos hok.2]
   rw[hr];clear hr;go_enter Tryz.func10,Tryz.ntmps10;go_wp2_with fail;refine(Q0 s _).mono ?_;rintro e w1 ⟨hb1,⟨hno,_⟩ | ⟨_,hi,bb,vc,ys,rfl,hn,ho,hm,hc,hk⟩⟩
   ·exact absurd hok hno
   obtain⟨vg,cap,yb,zb,rfl,him,_⟩:=Px hi hn ho hm hc hk;have hlen:=lX (.slice (some ⟨bb,0,none⟩) (eK s) (eK s)) (bL s) (.slice (some ⟨vg,0,none⟩) (iM s) cap) (by unfold bL;rw[jJ];rfl);have hone:=wR (vb:= .slice (some ⟨bb,0,none⟩) (eK s) (eK s)) (vc:= .slice (some ⟨vg,0,none⟩) (iM s) cap) (cs:=bL s) rfl rfl;obtain⟨IL,EIL⟩:∃l,jU (.slice (some ⟨bb,0,none⟩) (eK s) (eK s)) (bL s) (.slice (some ⟨vg,0,none⟩) (iM s) cap)=l:=⟨_,rfl⟩
   rw[EIL]at hlen hone ⊢;have HTL:Hid (IL.toArray.toList=IL):=by unfold Hid;simp
   have HSZ:Hid (IL.toArray.size=258):=by unfold Hid;simpa using hlen
   have HALL:Hid (IL.toArray.all (·.oneCell')=true):=all_oneCell_toArray hone;obtain⟨A,EA⟩:∃a,IL.toArray=a:=⟨_,rfl⟩
   rw[EA]at HTL HSZ HALL ⊢;have HA:Hid (A.toList=jU (.slice (some ⟨bb,0,none⟩) (iR s) (iR s)) (bL s) (.slice (some ⟨vg,0,none⟩) (iM s) cap)):=by
    unfold Hid;rw[HTL.out,←EIL,(wZ hi).ru]
   have HIM:=aA him;have HI:=aA hi;have HB1:=aA hb1;have HN2:=aA (bI w1 Tryz.zeroCells72 72 w1.heap.size 258 Tryz.imgZero rfl);have HBS:Hid (Below w1.heap.size w1 ((w1.alloc (.cells Tryz.zeroCells72 72)).setCells w1.heap.size 0 A.toList)):=aD _ 0 _ w1.heap.size ((bN _ _).alloc (aR _) _) (aR _);have HRI:Hid (((w1.alloc (.cells Tryz.zeroCells72 72)).setCells w1.heap.size 0 A.toList).rangeAt w1.heap.size 0 A.toList):=World.rangeAt_setCells_same _ _ _ _ (by rw[bM,HSZ.out];exact HN2.out);clear EIL hlen hone EA HTL him hi hb1 hn ho hm hc hk hok;have HIM2:Hid (IM ((w1.alloc (.cells Tryz.zeroCells72 72)).setCells w1.heap.size 0 A.toList) s bb vg yb zb ((w1.alloc (.cells Tryz.zeroCells72 72)).setCells w1.heap.size 0 A.toList).heap.size):=(HIM.out.below HBS.out (aR _)).mono HBS.out.size;have HB2:Hid (Below w.heap.size w ((w1.alloc (.cells Tryz.zeroCells72 72)).setCells w1.heap.size 0 A.toList)):=HB1.out.trans (HBS.out.mono HB1.out.size);generalize hW2:(w1.alloc (.cells Tryz.zeroCells72 72)).setCells w1.heap.size 0 A.toList=w2 at*;replace hW2:=aA hW2;clear HIM HB1 HBS;go_wp2_with (first
    | (refine wpList_store_mid rfl 72 (.tmp 7) (.tmp 18) rfl w1.heap.size 0 A rfl rfl ?_ ?_ HALL.out ?_;(rw[HSZ.out];exact HN2.out);(rw[HSZ.out];exact Tryz.imgSize);rw[hW2.out])
    | (refine wpList_load_mid rfl 72 (.tmp 7) rfl w1.heap.size 0 rfl A.toList _ HRI.out Tryz.underlying72 rfl ?_ ?_;(rw[bM,HSZ.out];exact Tryz.imgSize))
    | fail)
   refine(Sf s inp 0 bb vg cap yb zb A w2 HI.out (by omega) (nJ HI.out).2.2.1 HA.out HIM2.out).mono ?_;rintro e w3 ⟨vt,rfl,hrt,hb3⟩;have HR3:=aA hrt;have HB3:=aA (HB2.out.trans (hb3.mono HB2.out.size));clear hrt hb3;go_wp2;go_ret3;exact⟨vt,rfl,Al HR3.out (by have:=HB2.out.size;omega),HB3.out⟩
  ·have hr:pW s inp=([],0,chk s):=by
    unfold pW chk;by_cases h1:120000<s.size
    ·rw[if_pos (.inl h1),if_pos h1]
    ·have h2:¬fV s=true:=fun h=>hok ⟨by omega,h⟩
     rw[if_neg (by omega),if_neg h2,if_neg h1,if_neg h2]
   have hne:((chk s:Int) !=0)=true:=by
    rw[bne_iff_ne];unfold chk;by_cases h1:120000<s.size
    ·rw[if_pos h1];decide
    ·have h2:¬fV s=true:=fun h=>hok ⟨by omega,h⟩
     rw[if_neg h1,if_neg h2];decide
   rw[hr];clear hr;go_enter Tryz.func10,Tryz.ntmps10;go_wp2_with fail;refine(Q0 s _).mono ?_;rintro e w1 ⟨hb1,⟨_,rfl⟩ | ⟨h1,h2,_⟩⟩
   ·have HB1:=aA hb1;have HN2:=aA (bI w1 Tryz.zeroCells72 72 w1.heap.size 258 Tryz.imgZero rfl);have HBS:Hid (Below w1.heap.size w1 ((w1.alloc (.cells Tryz.zeroCells72 72)).setCells w1.heap.size 0 Tryz.zeroCells72.toList)):=aD _ 0 _ w1.heap.size ((bN _ _).alloc (aR _) _) (aR _);clear hb1 hok;obtain⟨ck,hck⟩:∃ck,chk s=ck:=⟨_,rfl⟩
    rw[hck]at hne ⊢;replace hck:=aA hck;go_wp2_with (first
     | (refine wpList_store_mid rfl 72 (.tmp 7) (.tmp 18) rfl w1.heap.size 0 Tryz.zeroCells72 rfl rfl ?_ ?_ Tryz.imgZeroOne ?_;(rw[Tryz.imgZero];exact HN2.out);(rw[Tryz.imgZero];exact Tryz.imgSize))
     | fail)
    go_ret3;exact⟨_,by rw[hck.out];rfl,aT _ _ 79 3,HB1.out.trans (HBS.out.mono HB1.out.size)⟩
   ·exact absurd ⟨h1,h2⟩ hok
theorem Ks (s inp:ByteArray)(w:World)(_hs:s.size<=maxLen)(_hin:inp.size<=maxLen):
  Calls Tryz.prog 10 #[.string s,.string inp] w fun e w'=>
   ∃v,e= .returned (.tuple #[v,.int .i64 (pW s inp).2.1,.int .i64 (pW s inp).2.2])/\Bh w' w'.heap.size v (pW s inp).1/\Below w.heap.size w w':=by
 refine(Gf s inp w).mono ?_;rintro e w' ⟨v,h1,h2,h3⟩;exact⟨v,h1,rS h2,h3⟩
end Go.Proofs.YtgjgjgihceijnaaGreat
namespace Go.Proofs.YtgjgjgihceijnaaGreat
open Go.RowKit Go.Stn
theorem Ku {a b:List (Int×Int×Int)}(h:a.length≠b.length):Stn.gA a b=false:=by
 unfold Stn.gA;simp;intro e;exact h (by rw[e])
theorem Mi {a b:List (Int×Int×Int)}(h:a.length=b.length)(he:∀k,k<a.length->a[k]? =b[k]?):Stn.gA a b=true:=by
 unfold Stn.gA;simp;apply List.ext_getElem?;intro k;by_cases hk:k<a.length
 ·exact he k hk
 ·rw[a9 (by omega),a9 (by omega)]
theorem Ok {a b:List (Int×Int×Int)}{k:Nat}(he:a[k]? ≠b[k]?):Stn.gA a b=false:=by
 unfold Stn.gA;simp;intro e;exact he (by rw[e])
theorem Ob (a b:List (Int×Int×Int))(ga ca gb cb:Nat)(w:World)(ha:a.length<=1000000)(_hb:b.length<=1000000)
  (hac:∀k x,a[k]? =some x->w.cell? ⟨ga,k*3,none⟩=some (.int .i64 x.1)/\w.cell? ⟨ga,k*3+1,none⟩=some (.int .i64 x.2.1)/\w.cell? ⟨ga,k*3+2,none⟩=some (.int .i64 x.2.2))
  (hbc:∀k x,b[k]? =some x->w.cell? ⟨gb,k*3,none⟩=some (.int .i64 x.1)/\w.cell? ⟨gb,k*3+1,none⟩=some (.int .i64 x.2.1)/\w.cell? ⟨gb,k*3+2,none⟩=some (.int .i64 x.2.2)):
  Calls Tryz.prog 12 #[.slice (some ⟨ga,0,none⟩) a.length ca,.slice (some ⟨gb,0,none⟩) b.length cb] w fun e w'=>e= .returned (.bool (Stn.gA a b))/\∃q,w'=w.drewN q:=by
 have HA:=yX hac;have HB:=yX hbc;clear hac hbc;by_cases hlen:a.length=b.length
 ·have hne:((a.length:Int) !=(b.length:Int))=false:=by rw[hlen];simp
  go_enter Tryz.func12,Tryz.ntmps12;have HLN:=yX hlen;clear hlen;go_wp2_with fail
  go_loopw [5] (fun i w'=>∃k q:Nat,k<=a.length/\i= .int .i64 (k:Int)/\w'=w.drewN q/\∀j,j<k->a[j]? =b[j]?) (fun i _=>a.length - (intOf i).toNat)
  case atStart=>exact⟨0,0,Nat.zero_le _,rfl,rfl,fun j h=>absurd h (Nat.not_lt_zero _)⟩
  case round=>
   obtain⟨k,q,hk,rfl,rfl,hall⟩:=hrel;have HALL:=yX hall;clear hall;by_cases hlt:k<a.length
   ·have hlt':k<b.length:=by have:=HLN.out;omega
    obtain⟨⟨x,y,z⟩,hx⟩:∃u,a[k]? =some u:=⟨_,aL hlt⟩
    obtain⟨⟨x',y',z'⟩,hx'⟩:∃u,b[k]? =some u:=⟨_,aL hlt'⟩
    obtain⟨k0,k1,k2⟩:=HA.out k _ hx;obtain⟨m0,m1,m2⟩:=HB.out k _ hx';have HX:=yX hx;have HX':=yX hx';clear hx hx';simp only at k0 k1 k2 m0 m1 m2;have hkI:(0:Int)<=(k:Int)/\(k:Int)<(a.length:Int):=by omega
    have hkI':(0:Int)<=(k:Int)/\(k:Int)<(b.length:Int):=by omega
    have key:((x==x')=true/\(y==y')=true/\(z==z')=true)\/(((x==x')=false)\/((x==x')=true/\(y==y')=false)\/((x==x')=true/\(y==y')=true/\(z==z')=false)):=by
     cases (x==x')<;> cases (y==y')<;> cases (z==z')<;> simp
    rcases key with⟨e1,e2,e3⟩ | key
    ·have HE:Hid (a[k]? =b[k]?):=by
      unfold Hid;rw[HX.out,HX'.out,beq_iff_eq.1 e1,beq_iff_eq.1 e2,beq_iff_eq.1 e3]
     go_wp2;go_quiet (fail);go_wp2;go_roundw
     case rel=>
      refine⟨k+1,_,hlt,by go_num,rfl,fun j hj=> ?_⟩;by_cases ej:j=k
      ·rw[ej];exact HE.out
      ·exact HALL.out j (by omega)
     case measure=>simp[intOf];omega
    ·have HN:Hid (Stn.gA a b=false):=by
      refine Ok (k:=k) ?_;rw[HX.out,HX'.out];intro h;injection h with h;injection h with h1 h2;injection h2 with h2 h3;subst h1 h2 h3;simp at key
     rcases key with e1 | ⟨e1,e2⟩ | ⟨e1,e2,e3⟩
     all_goals
      go_wp2;go_quiet (fail);go_wp2;go_ret;exact⟨by rw[HN.out];rfl,q+nq,by first | rfl | simp⟩
   ·have HY:Hid (Stn.gA a b=true):=Mi HLN.out (fun j hj=>HALL.out j (by omega));go_wp2;go_ret;exact⟨by rw[HY.out];rfl,q,rfl⟩
 ·have hne:((a.length:Int) !=(b.length:Int))=true:=by rw[bne_iff_ne];omega
  have HN:Hid (Stn.gA a b=false):=Ku hlen;clear hlen;go_enter Tryz.func12,Tryz.ntmps12;go_wp2;go_ret;exact⟨by rw[HN.out];rfl,0,rfl⟩
theorem D8 (va vb:Option Addr)(n m ca cb:Nat)(w:World)(h:n=0\/m=0)(hn:n<=1000000)(hm:m<=1000000):
  Calls Tryz.prog 12 #[.slice va n ca,.slice vb m cb] w fun e w'=>e= .returned (.bool (decide (n=m)))/\∃q,w'=w.drewN q:=by
 by_cases e:n=m
 ·have e0:n=0:=by omega
  subst e;subst e0;go_enter Tryz.func12,Tryz.ntmps12;go_wp2_with fail
  go_loop [5] (fun i=>i= .int .i64 0) (fun _=>0)
  case atStart=>rfl
  case round=>
   subst hrel;go_wp2;go_ret;exact⟨rfl,0,rfl⟩
 ·have hne:((n:Int) !=(m:Int))=true:=by rw[bne_iff_ne];omega
  have hd:decide (n=m)=false:=by simp[e]
  rw[hd];clear hd e h;go_enter Tryz.func12,Tryz.ntmps12;go_wp2;go_ret;exact⟨rfl,0,rfl⟩
theorem Ph (a b:List (Int×Int×Int))(va vb:Value)(B B':Nat)(w:World)(ha:a.length<=1000000)(hb:b.length<=1000000)(ra:Bh w B va a)(rb:Bh w B' vb b):
  Calls Tryz.prog 12 #[va,vb] w fun e w'=>e= .returned (.bool (Stn.gA a b))/\∃q,w'=w.drewN q:=by
 rcases ra.sh with⟨rfl,rfl⟩ | ⟨ga,ca,rfl,_,_,_,hca⟩
 ·rcases rb.sh with⟨rfl,rfl⟩ | ⟨gb,cb,rfl,_,_,_,hcb⟩
  ·exact D8 none none 0 0 0 0 w (.inl rfl) (by omega) (by omega)
  ·have e:Stn.gA [] b=decide (0=b.length):=by
    unfold Stn.gA;rw[bT];simp;constructor
    ·intro h;rw[h];rfl
    ·intro h;exact List.eq_nil_of_length_eq_zero h.symm
   rw[e];exact D8 none _ 0 b.length 0 cb w (.inl rfl) (by omega) hb
 ·rcases rb.sh with⟨rfl,rfl⟩ | ⟨gb,cb,rfl,_,_,_,hcb⟩
  ·have e:Stn.gA a []=decide (a.length=0):=by
    unfold Stn.gA;rw[bT];simp
   rw[e];exact D8 _ none a.length 0 ca 0 w (.inr rfl) ha (by omega)
  ·exact Ob a b ga ca gb cb w ha hb hca hcb
end Go.Proofs.YtgjgjgihceijnaaGreat
