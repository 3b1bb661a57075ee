import Derived.Test.YtgjgjgihceijnaaGreatG33
import Derived.Test.YtgjgjgihceijnaaGreatG31
import Derived.Test.YtgjgjgihceijnaaGreatG32
open List renaming length_append->aL,append_assoc->aO,length_singleton->aR,mem_singleton->bC,getElem?_map->a9,length_cons->bK
open Nat renaming le_refl->aT
open Go.Value renaming ownBlock->bM
set_option maxRecDepth 100000
set_option maxHeartbeats 8000000
namespace Go.Proofs.YtgjgjgihceijnaaGreat
open Go.RowKit Go.Stn
def dP (ns:List Nat):List Value:=ns.map (fun(m:Nat)=>Value.int .i64 (m:Int))
theorem FN.list {fb:Nat}{w:World}{O:Nat->Nat}{L:List NV}{vN vR:Value}{rc:List Value}{nR pl cn:Nat}(h:FN fb w O L vN vR rc nR pl cn)(k:Nat)(hk:k≠0)(ns:List Nat)(T:TypeId)(f:Nat->Bool):
  FN fb (w.alloc (.cells (dP ns).toArray T)) (fun j=>if j=w.heap.size then 4 else O j) L vN vR rc nR pl cn/\FK w O (w.alloc (.cells (dP ns).toArray T)) (fun j=>if j=w.heap.size then 4 else O j)/\
  zQ (w.alloc (.cells (dP ns).toArray T)) (fun j=>if j=w.heap.size then 4 else O j) ⟨⟨k,ns,f⟩,.slice (some ⟨w.heap.size,0,none⟩) ns.length ns.length,.slice none 0 0⟩:=by
 have hB:Below w.heap.size w (w.alloc (.cells (dP ns).toArray T)):=(Below.refl _ _).alloc (aT _) _;have hz:(w.alloc (.cells (dP ns).toArray T)).heap.size=w.heap.size+1:=by simp
 refine⟨(h.below hB).tag (h.fr _ (aT _)) (by omega),(FK.of_below hB O).tag (aT _),.inr ⟨hk,rfl,w.heap.size,ns.length,rfl,if_pos rfl,by omega,fun i m hm=> ?_,aT _⟩⟩;rw[World.cell?_alloc_new];have:(dP ns)[i]? =some (.int .i64 (m:Int)):=by
  unfold dP;rw[a9,hm]
  rfl
 simpa using this
theorem Gd {s:ByteArray}{ex:Nat->Option (Rx×Nat)}{i a1:Nat}{r:Rx}(h:fI s ex i=some (r,a1))(hm:fN (aJ s a1)=0):bY s ex i=some (r,a1):=by
 unfold bY;rw[h];simp only;rw[if_pos hm]
theorem Gu {s:ByteArray}{ex:Nat->Option (Rx×Nat)}{i a1:Nat}{r:Rx}(h:fI s ex i=some (r,a1))(hm:fN (aJ s a1)≠0):bY s ex i=some (xK (fN (aJ s a1)) r,a1+1):=by
 unfold bY;rw[h];simp only;rw[if_neg hm]
theorem Hd {s:ByteArray}{ex:Nat->Option (Rx×Nat)}{i:Nat}(h:fI s ex i=none):bY s ex i=none:=by
 unfold bY;rw[h]
theorem Hs {s:ByteArray}{ex:Nat->Option (Rx×Nat)}{lo:Nat}(hs:s.size<=500)(hx:Ge 116 s 2 1 lo (fI s ex))(hb:nD s ex):Ge 104 s 2 1 lo (bY s ex):=by
 intro fb w O L vN vR rc nR pl cn i h hok hlo hi hL;have hi:i<s.size:=hi;have HX:Hid (∀W,FN fb W O L vN vR rc nR pl cn->Calls Tryz.prog 116 #[.pointer (some ⟨fb,0,none⟩),.string s,.int .i64 (i:Int)] W (nM 2 fb W O L vR rc nR pl cn i (fI s ex i))):=fun W hW=>hx fb W O L vN vR rc nR pl cn i hW hok (by omega) (by omega) (by omega)
 have HF:=aA h;have HSB:=aA (fun r a=>Ad hb i r a);have HN:Hid (fI s ex i=none->bY s ex i=none):=fun h=>Hd h
 have H0:Hid (∀a1 r,fI s ex i=some (r,a1)->fN (aJ s a1)=0->bY s ex i=some (r,a1)):=fun a r h hm=>Gd h hm
 have HM:Hid (∀a1 r,fI s ex i=some (r,a1)->fN (aJ s a1)≠0->bY s ex i=some (xK (fN (aJ s a1)) r,a1+1)):=fun a r h hm=>Gu h hm
 clear hx hb h;generalize fI s ex i=A at*
 cases A with
 | none=>
  have HN:=aA (HN.out rfl);go_enter Tryz.func104,Tryz.ntmps104;go_wp2_with fail;refine(HX.out _ (HF.out.below ⟨rfl,rfl,rfl,aT _,fun _ _=>rfl⟩)).mono ?_;rintro e w1 ⟨a,b,O',rfl,hk⟩;have HK:=aA hk;clear hk;go_wp2;go_ret3;rw[HN.out];exact nM.bad HK.out
  all_goals trivial
 | some y=>
  obtain⟨r,a1⟩:=y;have hsb:=HSB.out r a1 rfl;have H0:=aA (H0.out a1 r rfl);have HM:=aA (HM.out a1 r rfl);clear HSB HN;by_cases ha:a1<s.size
  ·have hz:(s[a1]'ha).toNat=bt s a1:=jE s a1 ha;have haI:(0:Int)<=(a1:Int)/\(a1:Int)<(s.size:Int):=by omega
   rw[eY ha]at H0 HM;generalize bt s a1=y at*;go_enter Tryz.func104,Tryz.ntmps104;go_upto_region 2 with fail;refine(HX.out _ (HF.out.below ⟨rfl,rfl,rfl,aT _,fun _ _=>rfl⟩)).mono ?_;rintro e w1 ⟨n,M,vN',O',rfl,hf,hk,hsm,hok2,hM⟩;obtain⟨L1,e1⟩:∃L1,L1=L++M:=⟨_,rfl⟩
   have hl1:L1.length<=10000:=by rw[e1,aL];omega
   rw[←e1]at hf hsm hok2;have HLM:=aA e1;clear e1;have HF1:=aA hf;have HK1:=aA hk;have HS1:=aA hsm;have HO1:=aA hok2;have hn1:n<L1.length:=by rw[←dQ];exact hsm.1
   clear hf hk hsm hok2;by_cases k1:y=42
   ·have t1:((y:Int)==42)=true:=by rw[k1];rfl
    have HE:Hid (bY s ex i=some (.star r,a1+1)):=by
     unfold Hid;rw[HM.out (by rw[k1];decide),k1]
     rfl
    clear k1 H0 HM;go_wp2_with fail;have HL2:=aA (HF1.out.list 3 (by decide) [n] 3 (fun _=>false));have HC2:Hid (∀m,m∈ [n]->m<L1.length):=fun m hm=>by rw[bC.1 hm];exact hn1
    refine(nP HL2.out.1 3 (some ⟨w1.heap.size,0,none⟩) none 1 1 0 0 ⟨3,[n],fun _=>false⟩ rfl HL2.out.2.2 HC2.out (by omega)).mono ?_;rintro e w3 ⟨rfl,O3,vN3,hf3,hk3⟩;have HF3:=aA hf3;have HK3:=aA (HK1.out.trans (HL2.out.2.1.trans hk3));clear hf3 hk3;go_wp2;go_ret3;rw[HE.out];refine nM.good (r:= .star r) (M:=M++ [⟨⟨3,[n],fun _=>false⟩,.slice (some ⟨w1.heap.size,0,none⟩) 1 1,.slice none 0 0⟩]) (by rw[←aO,←HLM.out];exact HF3.out) HK3.out ?_ (by rw[←aO,←HLM.out];exact HO1.out.more (show 0<3/\3<=4 by decide) (fun _=>⟨n,rfl⟩) (by simp)) (by simp;omega);rw[←aO,←HLM.out,gV,←dQ L1];exact Az HF1.out.cl HS1.out _
   ·have t1:((y:Int)==42)=false:=by rw[beq_eq_false_iff_ne];omega
    by_cases k2:y=63
    ·have t2:((y:Int)==43)=false:=by rw[k2];rfl
     have t3:((y:Int)==63)=true:=by rw[k2];rfl
     have HE:Hid (bY s ex i=some (.opt r,a1+1)):=by
      unfold Hid;rw[HM.out (by rw[k2];decide),k2]
      rfl
     clear k1 k2 H0 HM;go_wp2_with fail;have HL2:=aA (HF1.out.list 4 (by decide) [n] 3 (fun _=>false));have HC2:Hid (∀m,m∈ [n]->m<L1.length):=fun m hm=>by rw[bC.1 hm];exact hn1
     refine(nP HL2.out.1 4 (some ⟨w1.heap.size,0,none⟩) none 1 1 0 0 ⟨4,[n],fun _=>false⟩ rfl HL2.out.2.2 HC2.out (by omega)).mono ?_;rintro e w3 ⟨rfl,O3,vN3,hf3,hk3⟩;have HF3:=aA hf3;have HK3:=aA (HK1.out.trans (HL2.out.2.1.trans hk3));clear hf3 hk3;go_wp2;go_ret3;rw[HE.out];refine nM.good (r:= .opt r) (M:=M++ [⟨⟨4,[n],fun _=>false⟩,.slice (some ⟨w1.heap.size,0,none⟩) 1 1,.slice none 0 0⟩]) (by rw[←aO,←HLM.out];exact HF3.out) HK3.out ?_ (by rw[←aO,←HLM.out];exact HO1.out.more (show 0<4/\4<=4 by decide) (fun e=>by cases e) (by simp)) (by simp;omega);rw[←aO,←HLM.out,gV,←dQ L1];exact Ug HF1.out.cl HS1.out _
    ·have t3:((y:Int)==63)=false:=by rw[beq_eq_false_iff_ne];omega
     by_cases k3:y=43
     ·have t2:((y:Int)==43)=true:=by rw[k3];rfl
      have HE:Hid (bY s ex i=some (.plus r,a1+1)):=by
       unfold Hid;rw[HM.out (by rw[k3];decide),k3]
       rfl
      clear k1 k2 k3 H0 HM;go_wp2_with fail;have HL2:=aA (HF1.out.list 3 (by decide) [n] 3 (fun _=>false));have HC2:Hid (∀m,m∈ [n]->m<L1.length):=fun m hm=>by rw[bC.1 hm];exact hn1
      refine(nP HL2.out.1 3 (some ⟨w1.heap.size,0,none⟩) none 1 1 0 0 ⟨3,[n],fun _=>false⟩ rfl HL2.out.2.2 HC2.out (by omega)).mono ?_;obtain⟨t,ht⟩:∃t:NV,t=⟨⟨3,[n],fun _=>false⟩,.slice (some ⟨w1.heap.size,0,none⟩) 1 1,.slice none 0 0⟩:=⟨_,rfl⟩
      rw[←ht];rintro e w3 ⟨rfl,O3,vN3,hf3,hk3⟩;have HT:=aA ht;have HF3:=aA hf3;have HK3:=aA (HK1.out.trans (HL2.out.2.1.trans hk3));have HO3:Hid (OkN (L1++ [t]) (pl+r.np)):=HO1.out.more (by rw[ht];exact(show 0<3/\3<=4 by decide)) (fun _=>⟨n,by rw[ht]⟩) (by rw[ht];simp);have HS3:Hid (Stn.Sem (nvN (L1++ [t])) L1.length (.star r)):=by
       unfold Hid;rw[gV,←dQ L1,ht];exact Az HF1.out.cl HS1.out _
      have HS1':Hid (Stn.Sem (nvN (L1++ [t])) n r):=by
       unfold Hid;rw[gV];exact HS1.out.more HF1.out.cl _
      have hl3:(L1++ [t]).length=L1.length+1:=by simp
      obtain⟨gN,cp,hvn,hfr⟩:=hf3.read (by omega);have HFR:=aA hfr;clear hf3 hk3 hvn hfr ht HL2 HC2;go_wp2_with fail;refine(wC HO3.out.1 HF3.out.cl (by omega) n (by omega) _ (HFR.out.below ⟨rfl,rfl,rfl,aT _,fun _ _=>rfl⟩ (aT _))).mono ?_;rintro e w4 ⟨rfl,hb4⟩;have HF4:=aA (HF3.out.below hb4);have HK4:=aA (HK3.out.trans (FK.of_below hb4 O3));have HEM:Hid (emB (nvN (L1++ [t])) n=true↔W r []):=(xA HO3.out.1 n).trans (HS1'.out.2.1 []);clear hb4
      cases hem:emB (nvN (L1++ [t])) n with
      | true=>
       have HW:=aA (HEM.out.1 hem);clear hem;go_wp2;go_ret3;rw[HE.out];refine nM.good (r:= .plus r) (M:=M++ [t]) (by rw[←aO,←HLM.out];exact HF4.out) HK4.out ?_ (by rw[←aO,←HLM.out];exact HO3.out) (by simp;omega);rw[←aO,←HLM.out];exact HS3.out.congr (fun u=>(Si HW.out u).symm) rfl
      | false=>
       have HEF:=aA hem;have HNX:Hid (∃f,(nvN (L1++ [t]))[L1.length]? =some ⟨3,[n],f⟩):=⟨fun _=>false,by rw[gV,←dQ L1,HT.out];exact fS _⟩
       clear hem;go_wp2_with fail;have HL5:=aA (HF4.out.list 1 (by decide) [n,L1.length] 3 (fun _=>false));have HC5:Hid (∀m,m∈ [n,L1.length]->m<(L1++ [t]).length):=fun m hm=>by
        rcases List.mem_cons.1 hm with e | e
        ·rw[e];omega
        ·rw[bC.1 e];omega
       refine(nP HL5.out.1 1 (some ⟨w4.heap.size,0,none⟩) none 2 2 0 0 ⟨1,[n,L1.length],fun _=>false⟩ rfl HL5.out.2.2 HC5.out (by omega)).mono ?_;rintro e w6 ⟨rfl,O6,vN6,hf6,hk6⟩;have HF6:=aA hf6;have HK6:=aA (HK4.out.trans (HL5.out.2.1.trans hk6));clear hf6 hk6;go_wp2;go_ret3;rw[HE.out];have ea:L++(M++ [t,⟨⟨1,[n,L1.length],fun _=>false⟩,.slice (some ⟨w4.heap.size,0,none⟩) 2 2,.slice none 0 0⟩])=(L1++ [t])++ [⟨⟨1,[n,L1.length],fun _=>false⟩,.slice (some ⟨w4.heap.size,0,none⟩) 2 2,.slice none 0 0⟩]:=by rw[HLM.out];simp
       refine nM.good (r:= .plus r) (M:=M++ [t,⟨⟨1,[n,L1.length],fun _=>false⟩,.slice (some ⟨w4.heap.size,0,none⟩) 2 2,.slice none 0 0⟩]) (by rw[ea];exact HF6.out) HK6.out ?_ (by rw[ea];exact HO3.out.more (show 0<1/\1<=4 by decide) (fun e=>by cases e) (by simp)) (by simp;omega);rw[ea,gV,←hl3,←dQ (L1++ [t])];exact Qw HF3.out.cl HS1'.out HS3.out HNX.out HEF.out _
     ·have t2:((y:Int)==43)=false:=by rw[beq_eq_false_iff_ne];omega
      have HE:Hid (bY s ex i=some (r,a1)):=H0.out (by unfold fN;rw[if_neg (by omega),if_neg (by omega),if_neg (by omega)]);clear k1 k2 k3 H0 HM;go_wp2;go_ret3;rw[HE.out];exact nM.good (M:=M) (by rw[←HLM.out];exact HF1.out) HK1.out (by rw[←HLM.out];exact HS1.out) (by rw[←HLM.out];exact HO1.out) (by omega)
  ·have HE:Hid (bY s ex i=some (r,a1)):=H0.out (by rw[dA (by omega)];rfl);go_enter Tryz.func104,Tryz.ntmps104;go_wp2_with fail;refine(HX.out _ (HF.out.below ⟨rfl,rfl,rfl,aT _,fun _ _=>rfl⟩)).mono ?_;rintro e w1 ⟨n,M,vN',O',rfl,hf,hk,hsm,hok2,hM⟩;have HF1:=aA hf;have HK:=aA hk;have HSM:=aA hsm;have HOK:=aA hok2;clear hf hk hsm hok2;go_wp2;go_ret3;rw[HE.out];exact nM.good HF1.out HK.out HSM.out HOK.out (by omega)
end Go.Proofs.YtgjgjgihceijnaaGreat
namespace Go.Stn
theorem R4:∀(ps:List Rx) (p q:Rx),rE p (ps++ [q])= .cat (rE p ps) q
 | [],_,_=>rfl
 | x::ps,p,q=>R4 ps (.cat p x) q
theorem T2:∀(ps:List Rx) (p q:Rx),uP p (ps++ [q])= .alt (uP p ps) q
 | [],_,_=>rfl
 | x::ps,p,q=>T2 ps (.alt p x) q
def B0:List Rx->Rx->Rx
 | [],r=>r
 | o::os,r=>uP o (os++ [r])
theorem Gv (ors:List Rx)(c r:Rx):B0 (ors++ [c]) r= .alt (B0 ors c) r:=by
 cases ors with
 | nil=>rfl
 | cons o os=>
  show uP o ((os++ [c])++ [r])=_;rw[T2]
  rfl
theorem Ny {ors:List Rx}{c o:Rx}{os:List Rx}(h:ors++ [c]=o::os):B0 ors c=uP o os:=by
 cases ors with
 | nil=>
  injection h with h1 h2;rw[←h1,←h2];rfl
 | cons x xs=>
  injection h with h1 h2;rw[←h1,←h2];rfl
def npL:List Rx->Nat
 | []=>0
 | r::l=>r.np+npL l
theorem xG:∀(l:List Rx) (r:Rx),npL (l++ [r])=npL l+r.np
 | [],r=>by simp[npL]
 | x::l,r=>by show x.np+npL (l++ [r])=_;rw[xG l r];show _=x.np+npL l+r.np;omega
theorem V8:∀(ps:List Rx) (p:Rx),(rE p ps).np=p.np+npL ps
 | [],_=>rfl
 | x::ps,p=>by show(rE (.cat p x) ps).np=_;rw[V8 ps];show p.np+x.np+npL ps=p.np+(x.np+npL ps);omega
theorem Iv:∀(ps:List Rx) (p:Rx),(uP p ps).np=p.np+npL ps
 | [],_=>rfl
 | x::ps,p=>by show(uP (.alt p x) ps).np=_;rw[Iv ps];show p.np+x.np+npL ps=p.np+(x.np+npL ps);omega
theorem Rn (ors:List Rx)(c:Rx):(B0 ors c).np=npL ors+c.np:=by
 cases ors with
 | nil=>show c.np=0+c.np;omega
 | cons o os=>show(uP o (os++ [c])).np=o.np+npL os+c.np;rw[Iv,xG];omega
def Nv (s:ByteArray)(x:Option (Rx×Nat)):Option (Rx×Nat):=
 match x with
 | none=>none
 | some (r,a1)=>if oC s a1=true then some (r,a1)else none
theorem Km (s:ByteArray)(ex:Nat->Option (Rx×Nat))(a:Nat):kL s ex a=Nv s (ex a):=rfl
theorem H5 {s:ByteArray}{ex:Nat->Option (Rx×Nat)}{i:Nat}(h:fL s i=false):bY s ex i=none:=by
 unfold fL at h;rw[Bool.or_eq_false_iff,decide_eq_false_iff_not]at h;obtain⟨h1,h2⟩:=h;have b1:isB s 40 i=false:=by unfold isB;rw[decide_eq_false_iff_not];exact fun e=>h1 (.inl e)
 have b2:isB s 91 i=false:=by unfold isB;rw[decide_eq_false_iff_not];exact fun e=>h1 (.inr (.inl e))
 have b3:isB s 46 i=false:=by unfold isB;rw[decide_eq_false_iff_not];exact fun e=>h1 (.inr (.inr (.inl e)))
 have b4:isB s 92 i=false:=by unfold isB;rw[decide_eq_false_iff_not];exact fun e=>h1 (.inr (.inr (.inr e)))
 have e1:cM s dM i=none:=by unfold cM;rw[b4,h2];rfl
 have e2:cD s i=none:=by unfold cD;rw[b2,b3,e1];rfl
 have e3:fI s ex i=none:=by unfold fI;rw[b1,e2];rfl
 unfold bY;rw[e3]
theorem Ja {s:ByteArray}{i:Nat}(h:oC s i=true):fL s i=false:=by
 unfold oC at h;rw[decide_eq_true_eq]at h;by_cases hs:s.size<=i
 ·unfold fL;rw[dA hs]
  rfl
 ·have e:=h.resolve_left hs;unfold fL;rw[eY (by omega),e];decide
theorem Pz {s:ByteArray}{i:Nat}(hi:i<s.size)(h:bt s i=124):fL s i=false:=by
 unfold fL;rw[eY hi,h];decide
theorem Fp {s:ByteArray}{i:Nat}(hi:i<s.size):isB s 124 i=decide (bt s i=124):=by
 unfold isB;rw[eY hi,Bool.eq_iff_iff,decide_eq_true_eq,decide_eq_true_eq];omega
def ExI (s:ByteArray)(ex:Nat->Option (Rx×Nat))(T:Option (Rx×Nat))(ors rw_:List Rx)(i:Nat):Prop:=
 match rw_ with
 | []=>∃k,s.size<k+i/\T=match oV s ex i with
  | none=>none
  | some (r,a)=>Nv s (dT s ex k (B0 ors r) a)
 | p::ps=>∃k m,s.size<k+i/\s.size<m+i/\T=match fK s ex m (rE p ps) i with
  | none=>none
  | some (r,a)=>Nv s (dT s ex k (B0 ors r) a)
theorem ExI.start (s:ByteArray)(f i:Nat):ExI s (dS s f) (kL s (dS s (f+1)) i) [] [] i:=by
 refine⟨s.size+1,by omega, ?_⟩;rw[Km,dS]
 cases oV s (dS s f) i with
 | none=>rfl
 | some y=>rfl
variable {s:ByteArray} {ex:Nat->Option (Rx×Nat)} {T:Option (Rx×Nat)} {ors rs:List Rx} {i:Nat}
theorem ExI.none0 (h:ExI s ex T ors [] i)(hp:bY s ex i=none):T=none:=by
 obtain⟨k,_,h⟩:=h;rw[h];unfold oV;rw[hp]
theorem ExI.bad (h:ExI s ex T ors rs i)(hi:i<s.size)(hs:oC s i=false)(hb:bt s i≠124)(hp:bY s ex i=none):T=none:=by
 cases rs with
 | nil=>exact h.none0 hp
 | cons p ps=>
  obtain⟨k,m,hk,hm,h⟩:=h;rw[h];obtain⟨m,rfl⟩:∃n,m=n+1:=⟨m - 1,by omega⟩
  obtain⟨k,rfl⟩:∃n,k=n+1:=⟨k - 1,by omega⟩
  rw[fK];by_cases ha:fL s i=false
  ·rw[if_pos ha];simp only;have e:isB s 124 i=false:=by rw[Fp hi,decide_eq_false_iff_not];exact hb
   rw[dT,if_pos e];unfold Nv;simp only;rw[hs,if_neg (by simp)]
  ·rw[if_neg ha,hp]
theorem ExI.piece (h:ExI s ex T ors rs i)(hx:nD s ex){r2:Rx}{a2:Nat}(hp:bY s ex i=some (r2,a2)):ExI s ex T ors (rs++ [r2]) a2:=by
 have hb:=pU hx _ _ _ hp
 cases rs with
 | nil=>
  obtain⟨k,hk,h⟩:=h;refine⟨k,s.size+1,by omega,by omega, ?_⟩;rw[h];unfold oV;rw[hp]
  rfl
 | cons p ps=>
  obtain⟨k,m,hk,hm,h⟩:=h;obtain⟨m,rfl⟩:∃n,m=n+1:=⟨m - 1,by omega⟩
  refine⟨k,m,by omega,by omega, ?_⟩;rw[h,fK];have ha:¬fL s i=false:=fun e=>by rw[H5 e]at hp;cases hp
  rw[if_neg ha,hp,show ps.append [r2]=ps++ [r2] from rfl,R4]
theorem ExI.bar {p:Rx}{ps:List Rx}(h:ExI s ex T ors (p::ps) i)(hi:i<s.size)(hb:bt s i=124):ExI s ex T (ors++ [rE p ps]) [] (i+1):=by
 obtain⟨k,m,hk,hm,h⟩:=h;obtain⟨m,rfl⟩:∃n,m=n+1:=⟨m - 1,by omega⟩
 obtain⟨k,rfl⟩:∃n,k=n+1:=⟨k - 1,by omega⟩
 refine⟨k,by omega, ?_⟩;rw[h,fK,if_pos (Pz hi hb)];simp only;have e:¬isB s 124 i=false:=by rw[Fp hi,decide_eq_false_iff_not];exact fun h=>h hb
 rw[dT,if_neg e]
 cases oV s ex (i+1)with
 | none=>rfl
 | some y=>
  obtain⟨r2,a2⟩:=y;simp only;rw[Gv]
theorem ExI.last {p:Rx}{ps:List Rx}(h:ExI s ex T ors (p::ps) i)(hi:i<=s.size)(hs:oC s i=true):T=some (B0 ors (rE p ps),i):=by
 obtain⟨k,m,hk,hm,h⟩:=h;obtain⟨m,rfl⟩:∃n,m=n+1:=⟨m - 1,by omega⟩
 obtain⟨k,rfl⟩:∃n,k=n+1:=⟨k - 1,by omega⟩
 rw[h,fK,if_pos (Ja hs)];simp only;have e:isB s 124 i=false:=by
  by_cases hlt:i<s.size
  ·rw[Fp hlt,decide_eq_false_iff_not];intro e;unfold oC at hs;rw[decide_eq_true_eq]at hs;omega
  ·unfold isB;rw[dA (by omega)]
   rfl
 rw[dT,if_pos e];unfold Nv;simp only;rw[if_pos hs]
end Go.Stn
namespace Go.Proofs.YtgjgjgihceijnaaGreat
open Go.RowKit Go.Stn
theorem Fq (ns:List Nat)(n:Nat):dP (ns++ [n])=dP ns++ [.int .i64 (n:Int)]:=by unfold dP;simp
theorem kI {ns:List Nat}{i m:Nat}(h:ns[i]? =some m):(dP ns)[i]? =some (.int .i64 (m:Int)):=by unfold dP;rw[a9,h];rfl
structure kV (w:World)(O:Nat->Nat)(B:Nat)(v:Value)(ns:List Nat):Prop where
 ro:w.ownsRow B 3 1 v ns.length (dP ns)
 tg:∀k,v.ownBlock=some k->O k=0
theorem kV.start (w:World)(O:Nat->Nat)(B:Nat):kV w O B (.slice none 0 0) []:=⟨World.ownsRow_nil w B _ 1,fun k hk=>by cases hk⟩
variable {w w1 w4:World} {O O1 O2:Nat->Nat} {fb nR pl cn:Nat} {L:List NV} {vN vR:Value} {rc:List Value} {B:Nat} {v v2:Value} {ns ms:List Nat}
theorem kV.keep (h:kV w O B v ns)(hk:FK w O w1 O1):kV w1 O1 B v ns:=
 ⟨cV h.ro (fun k e=>hk.block k (h.ro.lt k e).2 (by have:=h.tg k e;omega) (by have:=h.tg k e;omega) (by have:=h.tg k e;omega)),fun k e=>(hk.own k (h.ro.lt k e).2).trans (h.tg k e)⟩
theorem kV.tagged (h:kV w O B v ns){g:Nat}(hg:v.ownBlock≠some g):kV w (fun k=>if k=g then 4 else O k) B v ns:=
 ⟨h.ro,fun k e=>by
  have:k≠g:=fun e2=>hg (by rw[e,e2])
  simp only[if_neg this];exact h.tg k e⟩
theorem kV.app (hf:FN fb w1 O1 L vN vR rc nR pl cn)(hk:FK w O w1 O1)(h:kV w1 O1 w.heap.size v ns)(h2:kV w1 O1 w.heap.size v2 ms)(hd:∀k,v2.ownBlock=some k->v.ownBlock≠some k){o:Obj}{g cap n:Nat}
  (hown:w4.ownsRow w.heap.size 3 1 (.slice (some ⟨g,0,none⟩) (ns.length+1) cap) (ns.length+1) (dP ns++ [.int .i64 (n:Int)])) (hgr:(w1.alloc o).grownBy w4 v.ownBlock) (hat:v.ownBlock=some g\/g=w1.heap.size+1):
  FN fb w4 O1 L vN vR rc nR pl cn/\FK w O w4 O1/\kV w4 O1 w.heap.size (.slice (some ⟨g,0,none⟩) (ns.length+1) cap) (ns++ [n])/\kV w4 O1 w.heap.size v2 ms/\(∀k,v2.ownBlock=some k->(Value.slice (some ⟨g,0,none⟩) (ns.length+1) cap).ownBlock≠some k):=by
 have hsz:=hgr.size;have ez:(w1.alloc o).heap.size=w1.heap.size+1:=by simp
 have hz:=hk.size;have keep:∀k,k<w1.heap.size->v.ownBlock≠some k->w4.heap[k]? =w1.heap[k]? :=fun k hk hv=>(hgr.block k (by omega) (fun e=>hv e.symm)).trans (Below.heap_alloc w1 o k hk)
 refine⟨hf.keep (by omega) (fun k hk h0=>⟨keep k hk (fun e=>h0 (h.tg k e)),rfl⟩) (fun k hk=>hf.fr k (by omega)),
  ⟨hgr.os.trans hk.os,hgr.tape.trans hk.tape,hgr.output.trans hk.output,by omega,fun k hk1 a1 a2 a3=>(keep k (by omega) (fun e=>by have:=(h.ro.lt k e).1;omega)).trans (hk.block k hk1 a1 a2 a3),hk.own⟩,
  ⟨by rw[Fq,aL,aR];exact hown,fun k e=> ?_⟩,
  ⟨cV h2.ro (fun k e=>keep k (h2.ro.lt k e).2 (hd k e)),h2.tg⟩,fun k e e2=> ?_⟩
 ·have e:g=k:=by simpa[bM]using e
  rw[←e];rcases hat with e1 | e1
  ·exact h.tg g e1
  ·exact hf.fr g (by omega)
 ·have e2:g=k:=by simpa[bM]using e2
  rcases hat with e1 | e1
  ·exact hd k e (by rw[←e2];exact e1)
  ·have:=(h2.ro.lt k e).2;omega
theorem kV.node (hf:FN fb w1 O1 L vN vR rc nR pl cn)(hk:FK w O w1 O1)(h:kV w1 O1 w.heap.size v ns)(hn:0<ns.length)(k:Nat)(h0:k≠0)(f:Nat->Bool):
  ∃g cap,v= .slice (some ⟨g,0,none⟩) ns.length cap/\FN fb w1 (fun k=>if k=g then 4 else O1 k) L vN vR rc nR pl cn/\FK w O w1 (fun k=>if k=g then 4 else O1 k)/\
   zQ w1 (fun k=>if k=g then 4 else O1 k) ⟨⟨k,ns,f⟩,.slice (some ⟨g,0,none⟩) ns.length cap,.slice none 0 0⟩:=by
 rcases bZ h.ro with e | ⟨g,cap,e⟩
 ·exfalso;obtain⟨a,c,e2⟩:=aK h.ro;rw[e]at e2;injection e2 with _ e3 _;omega
 ·have hlt:=h.ro.lt g (by rw[e];rfl);refine⟨g,cap,e,hf.tag (h.tg g (by rw[e];rfl)) hlt.2,hk.tag hlt.1,.inr ⟨h0,rfl,g,cap,rfl,if_pos rfl,hlt.2,fun i m hm=> ?_,Jb (by rw[←e];exact h.ro)⟩⟩;have:=h.ro.cells (g:=g) (by rw[e];rfl) i _ (kI hm);have ea:(⟨g,0,none⟩:Addr).add i=⟨g,i,none⟩:=by
   unfold Addr.add;split
   ·rename_i e0;rw[e0]
   ·rw[Nat.zero_add]
  rw[ea]at this;exact this
structure XI (s:ByteArray)(ex:Nat->Option (Rx×Nat))(T:Option (Rx×Nat))(fb:Nat)(w:World)(O:Nat->Nat)(L:List NV)(vR:Value)(rc:List Value)(nR pl cn i0:Nat)(wr:World)(i:Nat)(vo vr:Value)(M:List NV)(vN:Value)(O1:Nat->Nat)(no nr:List Nat)(ors rs:List Rx):Prop where
 fn:FN fb wr O1 (L++M) vN vR rc nR (pl+npL ors+npL rs) cn
 fk:FK w O wr O1
 lo:kV wr O1 w.heap.size vo no
 lr:kV wr O1 w.heap.size vr nr
 di:∀k,vo.ownBlock=some k->vr.ownBlock≠some k
 so:mH (nvN (L++M)) no ors
 sr:mH (nvN (L++M)) nr rs
 ok:OkN (L++M) (pl+npL ors+npL rs)
 b1:M.length<=3*(i - i0)
 b2:0<nr.length->M.length+2<=3*(i - i0)
 b3:no.length+nr.length<=i - i0
 ei:ExI s ex T ors rs i
theorem mH.len {N:List RN}{l:List Nat}{rs:List Rx}(h:mH N l rs):l.length=rs.length:=by
 induction h with
 | nil=>rfl
 | cons _ _ ih=>rw[bK,bK,ih]
end Go.Proofs.YtgjgjgihceijnaaGreat
namespace Go.Proofs.YtgjgjgihceijnaaGreat
open Go.RowKit Go.Stn
variable {s:ByteArray} {ex:Nat->Option (Rx×Nat)} {T:Option (Rx×Nat)} {fb:Nat} {w:World} {O:Nat->Nat} {L:List NV} {vR:Value} {rc:List Value} {nR pl cn i0:Nat} {wr:World} {i:Nat} {vo vr:Value} {M:List NV} {vN:Value} {O1:Nat->Nat} {no nr:List Nat} {ors rs:List Rx} {p:Rx} {ps:List Rx}
theorem yF (l m:List NV):nvN (l++m)=nvN l++nvN m:=by unfold nvN;simp
theorem Be (r:Rx)(l:List Rx):npL (r::l)=r.np+npL l:=rfl
theorem XI.fin (h:XI s ex T fb w O L vR rc nR pl cn i0 wr i vo vr M vN O1 no nr ors (p::ps))(hs:s.size<=200)(his:i<=s.size)(hst:oC s i=true){w6:World}{O6:Nat->Nat}{vN6:Value}{t1 t2:NV}(h1:t1.x=⟨1,nr,fun _=>false⟩)(h2:t2.x=⟨2,no++ [(L++M).length],fun _=>false⟩)
  (hf:FN fb w6 O6 (((L++M)++ [t1])++ [t2]) vN6 vR rc nR (pl+npL ors+npL (p::ps)) cn) (hk:FK w O w6 O6):
  nM 0 fb w O L vR rc nR pl cn i0 T (.returned (.tuple #[.int .i64 (((L++M).length+1:Nat):Int),.int .i64 (i:Int),.bool true])) w6:=by
 have hlr:=mH.len h.sr;have hlo:=mH.len h.so;have hnr:0<nr.length:=by rw[hlr];simp
 have hb2:=h.b2 hnr;have hb3:=h.b3;have hnp:pl+(B0 ors (rE p ps)).np=pl+npL ors+npL (p::ps):=by rw[Rn,V8,Be];omega
 have ea:L++(M++ [t1,t2])=((L++M)++ [t1])++ [t2]:=by simp
 rw[h.ei.last his hst];have hc1:aN (nvN ((L++M)++ [t1])):=by
  rw[gV];exact h.fn.cl.snoc (by rw[h1];exact h.sr.lt)
 refine nM.good (M:=M++ [t1,t2]) (O':=O6) (vN':=vN6) (by rw[ea,hnp];exact hf) hk ?_ (by
  rw[ea,hnp];exact(h.ok.more (by rw[h1];exact(show 0<1/\1<=4 by decide)) (fun e=>by rw[h1]at e;cases e) (by rw[h1];show nr.length<=200;omega)).more (by rw[h2];exact(show 0<2/\2<=4 by decide)) (fun e=>by rw[h2]at e;cases e) (by rw[h2];show(no++ [(L++M).length]).length<=200;rw[aL,aR];omega)) (by rw[aL];show M.length+2+0<=_;omega)
 obtain⟨o,os,hos⟩:∃o os,ors++ [rE p ps]=o::os:=by
  cases ors with
  | nil=>exact⟨_,_,rfl⟩
  | cons a b=>exact⟨_,_,rfl⟩
 rw[ea,gV,Ny hos,h2];have e3:(L++M).length+1=(nvN ((L++M)++ [t1])).length:=by rw[dQ];simp;omega
 rw[e3];refine Wo hc1 ?_ _;rw[←hos];have hrow:Stn.Sem (nvN ((L++M)++ [t1])) (L++M).length (rE p ps):=by
  rw[gV,h1,←dQ (L++M)];exact Io h.fn.cl h.sr _
 refine mH.snoc ?_ hrow;rw[gV];exact h.so.more h.fn.cl _
theorem XI.bar (h:XI s ex T fb w O L vR rc nR pl cn i0 wr i vo vr M vN O1 no nr ors (p::ps))(hs:s.size<=200)(hi0:i0<=i)(hlt:i<s.size)(hbar:bt s i=124){w4:World}{O3:Nat->Nat}{vN3 vo':Value}{t1:NV}(h1:t1.x=⟨1,nr,fun _=>false⟩)
  (hf:FN fb w4 O3 ((L++M)++ [t1]) vN3 vR rc nR (pl+npL ors+npL (p::ps)) cn) (hk:FK w O w4 O3) (hro:kV w4 O3 w.heap.size vo' (no++ [(L++M).length])):
  XI s ex T fb w O L vR rc nR pl cn i0 w4 (i+1) vo' (.slice none 0 0) (M++ [t1]) vN3 O3 (no++ [(L++M).length]) [] (ors++ [rE p ps]) []:=by
 have hlr:=mH.len h.sr;have hnr:0<nr.length:=by rw[hlr];simp
 have hb2:=h.b2 hnr;have hb3:=h.b3;have hnp:pl+npL (ors++ [rE p ps])+npL []=pl+npL ors+npL (p::ps):=by rw[xG,V8,Be];show _+0=_;omega
 have ea:L++(M++ [t1])=(L++M)++ [t1]:=by simp
 have hrow:Stn.Sem (nvN ((L++M)++ [t1])) (L++M).length (rE p ps):=by
  rw[gV,h1,←dQ (L++M)];exact Io h.fn.cl h.sr _
 refine⟨by rw[ea,hnp];exact hf,hk,hro,kV.start _ _ _,fun k _ e=>(by cases e), ?_,.nil, ?_, ?_,fun e=>absurd e (by simp), ?_,h.ei.bar hlt hbar⟩
 ·rw[ea];refine mH.snoc ?_ hrow;rw[gV];exact h.so.more h.fn.cl _
 ·rw[ea,hnp];exact h.ok.more (by rw[h1];exact(show 0<1/\1<=4 by decide)) (fun e=>by rw[h1]at e;cases e) (by rw[h1];show nr.length<=200;omega)
 ·rw[aL,aR];omega
 ·rw[aL,aR];show no.length+1+0<=_;omega
theorem XI.more (h:XI s ex T fb w O L vR rc nR pl cn i0 wr i vo vr M vN O1 no nr ors rs)(hi0:i0<=i)(hx:nD s ex){r2:Rx}{a2:Nat}(hp:bY s ex i=some (r2,a2)){w4:World}{O2:Nat->Nat}{vN2 vr':Value}{M2:List NV}{n:Nat}
  (hsem:Stn.Sem (nvN ((L++M)++M2)) n r2) (hok:OkN ((L++M)++M2) (pl+npL ors+npL rs+r2.np)) (hb:M2.length+2<=3*(a2 - i))
  (hf:FN fb w4 O2 ((L++M)++M2) vN2 vR rc nR (pl+npL ors+npL rs+r2.np) cn) (hk:FK w O w4 O2) (hro:kV w4 O2 w.heap.size vo no) (hrr:kV w4 O2 w.heap.size vr' (nr++ [n])) (hdi:∀k,vo.ownBlock=some k->vr'.ownBlock≠some k):
  XI s ex T fb w O L vR rc nR pl cn i0 w4 a2 vo vr' (M++M2) vN2 O2 no (nr++ [n]) ors (rs++ [r2]):=by
 have hlt:=pU hx _ _ _ hp;have hb1:=h.b1;have hb3:=h.b3;have hnp:pl+npL ors+npL (rs++ [r2])=pl+npL ors+npL rs+r2.np:=by rw[xG];omega
 have ea:L++(M++M2)=(L++M)++M2:=by simp
 refine⟨by rw[ea,hnp];exact hf,hk,hro,hrr,hdi, ?_, ?_,by rw[ea,hnp];exact hok, ?_,fun _=> ?_, ?_,h.ei.piece hx hp⟩
 ·rw[ea,yF];exact h.so.more h.fn.cl _
 ·rw[ea];refine mH.snoc ?_ hsem;rw[yF];exact h.sr.more h.fn.cl _
 ·rw[aL];omega
 ·rw[aL];omega
 ·rw[aL,aR];omega
end Go.Proofs.YtgjgjgihceijnaaGreat
