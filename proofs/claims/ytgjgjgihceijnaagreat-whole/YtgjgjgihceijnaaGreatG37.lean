import Derived.Test.YtgjgjgihceijnaaGreatG36
import Derived.Deep.AppendLies
import Derived.BigRegion
open List renaming getElem?_eq_getElem->aL,getElem?_eq_some_iff->aR,length_append->bK,length_eq_zero_iff->bM,mem_of_getElem?->bN,getElem?_append_right->bO,getElem?_append_left->bS,getElem?_eq_none->bT,length_singleton->cF,length_cons->cO,map_toArray->cP,append_nil->cR,length_nil->cT,map_cons->eM,map_nil->eO
open Nat renaming le_refl->aO,le_trans->eN,sub_self->eR
open Go.World renaming cell?_of_block->aT,cell?_alloc_at->bC,ownsRow_nil->cN
open Go.RowKit.Below renaming heap_alloc->a9,refl->cL
open Go.Value renaming ownBlock->eL
set_option maxRecDepth 100000
set_option maxHeartbeats 8000000
namespace Go.Proofs.YtgjgjgihceijnaaGreat
open Go.RowKit Go.Stn
theorem lO.bad {s:ByteArray}{w w':World}{c:Nat}(hb:Below w.heap.size w w')(h:lV s=(none,c)):lO s w (.returned (.tuple #[.pointer none,.int .i64 (c:Int)])) w':=by
 unfold lO;rw[h];exact⟨hb,rfl⟩
theorem lO.good {s:ByteArray}{w w':World}{l:List fM}{fb nR:Nat}{O:Nat->Nat}{L:List NV}{vN vR:Value}{R:List RV}(hb:Below w.heap.size w w')(h:lV s=(some l,0))(h0:w.heap.size<=fb)(hn:nR=R.length)(hf:FN fb w' O L vN vR (rvC R) nR (npS l) (cnS l))(ho:OkN L (npS l))(hr:RuM w' O (nvN L) R l)(hl:L.length<=3000):
  lO s w (.returned (.tuple #[.pointer (some ⟨fb,0,none⟩),.int .i64 0])) w':=by
 unfold lO;rw[h];exact⟨hb,fb,O,L,vN,vR,R,rfl,h0,by rw[←hn];exact hf,ho,hr,hl⟩
theorem Im {s:ByteArray}(h1:¬120<s.size)(h2:¬8<(fC s 10).length):lV s=match lnR s (fC s 10)with
  | none=>(none,2)
  | some l=>if 10<npS l then(none,3)else(some l,0):=by
 unfold lV;rw[if_neg h1,if_neg h2]
 rfl
theorem Kc {s:ByteArray}:∀{ps:List (Nat×Nat)} {l:List fM},lnR s ps=some l->l.length=ps.length
 | [],l,h=>by injection h with h;rw[←h];rfl
 | q::ps,l,h=>by
  unfold lnR at h
  cases e:iI (s.extract q.1 q.2)with
  | none=>rw[e]at h;cases h
  | some y=>
   rw[e]at h;simp only at h
   cases e2:lnR s ps with
   | none=>rw[e2]at h;cases h
   | some l2=>
    rw[e2]at h;injection h with h;rw[←h,cO,cO,Kc e2]
theorem P7 (s:ByteArray)(w:World):Calls Tryz.prog 20 #[.string s] w (lO s w):=by
 by_cases hbig:120<s.size
 ·have HE:Hid (lV s=(none,1)):=by unfold Hid lV;rw[if_pos hbig]
  have d1:decide ((120:Int)<(s.size:Int))=true:=by simp;omega
  clear hbig;go_enter Tryz.func20,Tryz.ntmps20;go_wp2;go_ret2;exact lO.bad (cL _ _) HE.out
 ·have HSP:=aA (fun W=>I7 s 10 W (by omega));have HL2:=aA (fun h2=> @Im s hbig h2);have H2:Hid (8<(fC s 10).length->lV s=(none,2)):=fun h=>by unfold lV;rw[if_neg hbig,if_pos h]
  have d1:decide ((120:Int)<(s.size:Int))=false:=by simp;omega
  go_enter Tryz.func20,Tryz.ntmps20;go_upto_region 4 with fail;refine(HSP.out _).mono ?_;rintro e w1 ⟨g0,cap0,rfl,hb1,hg0,hg1,hcs⟩;have HB1:=aA hb1;have HCS:=aA hcs;have hz1:=hb1.size;clear hb1 hcs HSP;generalize fC s 10=l at*;by_cases h8:8<l.length
  ·have HE:=aA (H2.out h8);have d2:decide ((8:Int)<(l.length:Int))=true:=by simp;omega
   clear h8;go_wp2;go_ret2;exact lO.bad HB1.out HE.out
  ·have HE:=aA (HL2.out h8);have d2:decide ((8:Int)<(l.length:Int))=false:=by simp;omega
   have HS0:=aA (FN.start w1);have HBA:Hid (Below w.heap.size w (w1.alloc (.cells #[.slice none 0 0,.slice none 0 0,.int .i64 0,.int .i64 0] 65))):=HB1.out.alloc hz1 _;have HC0:Hid (∀j a b,l[j]? =some (a,b)->(w1.alloc (.cells #[.slice none 0 0,.slice none 0 0,.int .i64 0,.int .i64 0] 65)).cell? ⟨g0,j,none⟩=some (.string (s.extract a b))):=fun j a b hj=>(aT (w:=w1) (a:=⟨g0,j,none⟩) (a9 w1 _ g0 hg1)).trans (HCS.out j a b hj)
   have hzf:w1.heap.size<(w1.alloc (.cells #[.slice none 0 0,.slice none 0 0,.int .i64 0,.int .i64 0] 65)).heap.size:=by simp
   clear HCS HL2 H2;go_wp2;generalize w1.alloc (.cells #[.slice none 0 0,.slice none 0 0,.int .i64 0,.int .i64 0] 65)=W at*;obtain⟨fb,hfb⟩:∃fb,fb=w1.heap.size:=⟨_,rfl⟩
   rw[←hfb]at HS0 hzf ⊢;have hgf:g0<fb:=by omega
   have hwf:w.heap.size<=fb:=by omega
   clear hfb;have HBW:Hid (∀wr O1,FK W (fun k=>if k=fb then 1 else 0) wr O1->Below w.heap.size w wr):=fun wr O1 hk=>by
    have hb:=HBA.out;have hz:=hb.size;refine⟨hk.os.trans hb.os,hk.tape.trans hb.tape,hk.output.trans hb.output,eN hb.size hk.size,fun k hkk=> ?_⟩;have e:(if k=fb then 1 else 0)=0:=if_neg (by omega);exact(hk.block k (by omega) (by show(if k=fb then 1 else 0)≠1;rw[e];decide) (by show(if k=fb then 1 else 0)≠2;rw[e];decide) (by show(if k=fb then 1 else 0)≠3;rw[e];decide)).trans (hb.block k hkk)
   have HCW:Hid (∀wr O1,FK W (fun k=>if k=fb then 1 else 0) wr O1->∀j a b,l[j]? =some (a,b)->wr.cell? ⟨g0,j,none⟩=some (.string (s.extract a b))):=fun wr O1 hk j a b hj=>by
    have e:(if g0=fb then 1 else 0)=0:=if_neg (by omega);exact(aT (w:=W) (a:=⟨g0,j,none⟩) (hk.block g0 (by omega) (by show(if g0=fb then 1 else 0)≠1;rw[e];decide) (by show(if g0=fb then 1 else 0)≠2;rw[e];decide) (by show(if g0=fb then 1 else 0)≠3;rw[e];decide))).trans (HC0.out j a b hj)
   clear HC0 HBA
   go_loopw [6] (fun z wr=>∃(i:Nat) (ls:List fM) (L:List NV) (vN vR:Value) (R:List RV) (O1:Nat->Nat),i<=l.length/\z= .int .i64 (i:Int)/\Hid (lnR s (l.take i)=some ls)/\FN fb wr O1 L vN vR (rvC R) i (npS ls) (cnS ls)/\OkN L (npS ls)/\RuM wr O1 (nvN L) R ls/\L.length<=360*i/\FK W (fun k=>if k=fb then 1 else 0) wr O1) (fun z _=>l.length - (intOf z).toNat)
   case atStart=>exact⟨0,[],[],_,_,[],_,by omega,rfl,rfl,HS0.out,⟨fun n x hx=>by simp[nvN]at hx,rfl⟩,RuM.nil _ _ _,by simp,FK.refl _ _⟩
   case round=>
    obtain⟨i,ls,L,vN,vR,R,O1,hi,rfl,HLS,hfn,hok,hru,hlen,hfk⟩:=hrel;have HFN:=aA hfn;have HOK:=aA hok;have HRU:=aA hru;have HFK:=aA hfk;clear hfn hok hru hfk HS0;by_cases hlt:i<l.length
    ·obtain⟨p,hp⟩:∃p,l[i]? =some p:=⟨l[i],aL hlt⟩
     obtain⟨pa,pb⟩:=p;have y0:=HCW.out wr O1 HFK.out i pa pb hp;have hiI:(0:Int)<=(i:Int)/\(i:Int)<(l.length:Int):=by omega
     have hzz:=yB s pa pb;have HRR:=aA (fun(W':World) (hW:FN fb W' O1 L vN vR (rvC R) i (npS ls) (cnS ls))=>Kt (s:=s.extract pa pb) (by omega) hW HOK.out (by omega) (by omega));have HMEM:Hid ((pa,pb)∈l):=bN hp;have HTK:Hid (l.take (i+1)=l.take i++ [(pa,pb)]):=by unfold Hid;rw[List.take_add_one,hp];rfl
     have HBAD:Hid (iI (s.extract pa pb)=none->lV s=(none,2)):=fun e=>by rw[HE.out,Jt HMEM.out e]
     have HSN:Hid (∀x,iI (s.extract pa pb)=some x->lnR s (l.take (i+1))=some (ls++ [x])):=fun x e=>by rw[HTK.out];exact Bf HLS.out e
     clear hp HTK HMEM;generalize s.extract pa pb=X at*;generalize iI X=A at*
     cases A with
     | none=>
      have HE2:=aA (HBAD.out rfl);go_wp2_with fail;refine(HRR.out _ (HFN.out.below ⟨rfl,rfl,rfl,aO _,fun _ _=>rfl⟩)).mono ?_;rintro e w5 ⟨O5,rfl,hk5⟩;have HB5:=aA (HBW.out _ _ (HFK.out.trans hk5));clear hk5;go_wp2;go_ret2;exact lO.bad HB5.out HE2.out
     | some x=>
      obtain⟨f,last,c,r⟩:=x;have HS2:=aA (HSN.out _ rfl);clear HSN HBAD;go_wp2_with fail;refine(HRR.out _ (HFN.out.below ⟨rfl,rfl,rfl,aO _,fun _ _=>rfl⟩)).mono ?_;rintro e w5 ⟨n,g,M,vN5,vR5,O5,rfl,hf5,hk5,hv5,hs5,ho5,hm5⟩;have HF5:=aA hf5;have HK5:=aA hk5;have HV5:=aA hv5;have HS5:=aA hs5;have HO5:=aA ho5;clear hf5 hk5 hv5 hs5 ho5;go_wp2;go_roundw
      case rel=>
       refine⟨i+1,ls++ [(f,last,c,r)],L++M,vN5,vR5,R++ [⟨f,c,n,g⟩],O5,hlt,by go_num,HS2, ?_, ?_, ?_,by rw[bK];omega,HFK.out.trans HK5.out⟩
       ·rw[Ut,K5,Rw];exact HF5.out
       ·rw[K5];exact HO5.out
       ·rw[yF];exact HRU.out.snoc HFN.out.cl HK5.out HV5.out rfl rfl (by rw[←yF];exact HS5.out)
      case measure=>simp[intOf];omega
    ·have HT:Hid (lnR s l=some ls):=by have:=HLS.out;rw[show i=l.length by omega,List.take_length]at this;exact this
     have dl:decide ((i:Int)<(l.length:Int))=false:=by simp;omega
     have c2:=HFN.out.c2;have HIR:Hid (i=R.length):=by
      have:=HRU.out.1;rw[Kc HT.out]at this;unfold Hid;omega
     have HBE:=aA (HBW.out _ _ HFK.out);by_cases hpl:10<npS ls
     ·have HE3:Hid (lV s=(none,3)):=by unfold Hid;rw[HE.out,HT.out];simp only;rw[if_pos hpl]
      have d3:decide ((10:Int)<(npS ls:Int))=true:=by simp;omega
      clear hpl;go_wp2;go_ret2;exact lO.bad HBE.out HE3.out
     ·have HE3:Hid (lV s=(some ls,0)):=by unfold Hid;rw[HE.out,HT.out];simp only;rw[if_neg hpl]
      have d3:decide ((10:Int)<(npS ls:Int))=false:=by simp;omega
      clear hpl;go_wp2;go_ret2;exact lO.good HBE.out HE3.out hwf HIR.out HFN.out HOK.out HRU.out (by omega)
end Go.Proofs.YtgjgjgihceijnaaGreat
namespace Go.Proofs.YtgjgjgihceijnaaGreat
open Go.RowKit Go.Stn
def IL (w:World)(v:Value)(ns:List Nat):Prop:=
 ∃a cap,v= .slice a ns.length cap/\ns.length<=cap/\(ns= []\/∃g o,a=some ⟨g,o,none⟩/\g<w.heap.size/\∀(i m:Nat),ns[i]? =some m->w.cell? ⟨g,o+i,none⟩=some (.int .i64 (m:Int)))
theorem IL.below {w w':World}{v:Value}{ns:List Nat}{B:Nat}(h:IL w v ns)(hB:Below B w w')(hb:w.heap.size<=B):IL w' v ns:=by
 obtain⟨a,cap,e,hcp,h⟩:=h;have hz:=hB.size;refine⟨a,cap,e,hcp, ?_⟩;rcases h with h | ⟨g,o,h1,h2,h3⟩
 ·exact .inl h
 ·exact .inr ⟨g,o,h1,by omega,fun i m hm=>(hB.cell (p:=⟨g,o+i,none⟩) (by show g<B;omega)).trans (h3 i m hm)⟩
def qQ (N:List RN)(ns:List Nat):Bool:=ns.all (emB N)
theorem Ou {N:List RN}{ns:List Nat}{i m:Nat}(h:ns[i]? =some m)(he:emB N m=false):qQ N ns=false:=by
 unfold qQ;rw[List.all_eq_false];exact⟨m,bN h,by rw[he];simp⟩
theorem Ky {N:List RN}{ns:List Nat}(h:∀(i m:Nat),ns[i]? =some m->emB N m=true):qQ N ns=true:=by
 unfold qQ;rw[List.all_eq_true];intro m hm;obtain⟨i,hi⟩:=List.getElem?_of_mem hm;exact h i m hi
theorem Kg {fb gN cap:Nat}{L:List NV}(hs:kP (nvN L))(hc:aN (nvN L))(hL:L.length<=100000){w:World}(h:FR fb w L gN cap){v:Value}{ns:List Nat}(hv:IL w v ns)(hn:∀m,m∈ns->m<L.length)(hl:ns.length<=1000000):
  Calls Tryz.prog 85 #[.pointer (some ⟨fb,0,none⟩),v] w fun e w'=>e= .returned (.bool (qQ (nvN L) ns))/\Below w.heap.size w w':=by
 obtain⟨a,vc,rfl,_,hv⟩:=hv;have HV:=aA hv;have HF:=aA h;have HN:=aA hn;have HE:=aA (fun m (hm:m<L.length) W=>wC (fb:=fb) (gN:=gN) (cap:=cap) hs hc hL m hm W);have HNO:=aA (fun i m=> @Ou (nvN L) ns i m);have HYES:=aA (@Ky (nvN L) ns);obtain⟨n,en⟩:∃n,ns.length=n:=⟨_,rfl⟩
 rw[en]at hl ⊢;have HLN:=aA en;clear h hv hn en;go_enter Tryz.func85,Tryz.ntmps85;go_wp2
 go_loopw [5] (fun z wr=>∃(i:Nat),i<=n/\z= .int .i64 (i:Int)/\Hid (∀(j m:Nat),j<i->ns[j]? =some m->emB (nvN L) m=true)/\Below w.heap.size w wr) (fun z _=>n - (intOf z).toNat)
 case atStart=>exact⟨0,by omega,rfl,aA (fun j m hj=>absurd hj (by omega)),cL _ _⟩
 case round=>
  obtain⟨i,hi,rfl,HA,hbl⟩:=hrel;have HB:=aA hbl;by_cases hlt:i<n
  ·obtain⟨m,hm⟩:∃m,ns[i]? =some m:=⟨ns[i]'(by rw[HLN.out];exact hlt),aL _⟩
   obtain⟨g,o,rfl,hg,hcell⟩:=HV.out.resolve_left (fun e=>by rw[e]at hm;simp at hm);have y0:wr.cell? ⟨g,o+i,none⟩=some (.int .i64 (m:Int)):=(hbl.cell (p:=⟨g,o+i,none⟩) hg).trans (hcell i m hm);have hmL:=HN.out m (bN hm);have hiI:(0:Int)<=(i:Int)/\(i:Int)<(n:Int):=by omega
   have HFR:=aA (HF.out.below hbl (aO _));have HM:=aA hm;have HCL:=aA hcell;clear hbl hcell hm;go_wp2_with fail;refine(HE.out m hmL _ (HFR.out.below ⟨rfl,rfl,rfl,aO _,fun _ _=>rfl⟩ (aO _))).mono ?_;rintro e w5 ⟨rfl,hb5⟩;have HB5:=aA (HB.out.trans (hb5.mono HB.out.size));clear hb5
   cases hem:emB (nvN L) m with
   | true=>
    have HA2:Hid (∀(j x:Nat),j<i+1->ns[j]? =some x->emB (nvN L) x=true):=fun j x hj hx=>by
     by_cases e:j=i
     ·subst e;rw[HM.out]at hx;injection hx with hx;rw[←hx];exact hem
     ·exact HA.out j x (by omega) hx
    clear hem;go_wp2;go_roundw
    case rel=>exact⟨i+1,hlt,by go_num,HA2,HB5.out⟩
    case measure=>simp[intOf];omega
   | false=>
    have HR:=aA (HNO.out i m HM.out hem);clear hem;go_wp2;go_ret;exact⟨by rw[HR.out];rfl,HB5.out⟩
  ·have HR:Hid (qQ (nvN L) ns=true):=HYES.out (fun j m hm=>HA.out j m (by have:=(aR.1 hm).1;rw[HLN.out]at this;omega) hm);have dl:decide ((i:Int)<(n:Int))=false:=by simp;omega
   clear hbl;go_wp2;go_ret;exact⟨by rw[HR.out];rfl,HB.out⟩
end Go.Proofs.YtgjgjgihceijnaaGreat
namespace Go.Proofs.YtgjgjgihceijnaaGreat
open Go.RowKit Go.Stn
theorem rA {P:Program}(w:World)(t ty:TypeId)(base:Nat)(e:TypeId)(i:TypeInfo)(size:Nat)(ht:P.underlying t=some (.slice e))(hi:P.info? e=some i)
  (v:Value) (n:Nat) (xs:List Value) (hown:w.ownsRow base e size v n xs) (a:Option Addr) (c:Nat):(Builtin.append_ #[t,t] ty #[v,.slice a 0 c]).run P w= .ok v w:=by
 cases a with
 | none=>
  rcases hown.2 with⟨rfl,rfl⟩ | ⟨g,cap,cur,rfl,_,_,hnc,_⟩
  ·simp[Builtin.append_,run_underlying ht,sizeOf,typeInfo,hi,Builtin.lenOf,Builtin.firstCells]
  ·simp[Builtin.append_,run_underlying ht,sizeOf,typeInfo,hi,Builtin.lenOf,Builtin.firstCells,hnc,storeCells]
 | some ad=>
  rcases hown.2 with⟨rfl,rfl⟩ | ⟨g,cap,cur,rfl,_,_,hnc,_⟩
  ·simp[Builtin.append_,run_underlying ht,sizeOf,typeInfo,hi,Builtin.lenOf,Builtin.firstCells,loadCells,loadCellsFrom]
  ·simp[Builtin.append_,run_underlying ht,sizeOf,typeInfo,hi,Builtin.lenOf,Builtin.firstCells,hnc,storeCells,loadCells,loadCellsFrom]
theorem iL (g o j:Nat):(⟨g,o,none⟩:Addr).add j=⟨g,o+j,none⟩:=by
 unfold Addr.add;split
 ·rename_i e0;rw[e0];rfl
 ·rfl
theorem wO (w:World){ops:Array Oper}{rest:List Oper}{o:Oper}{a:Act}{Q:Exit->Act->World->Prop}(hgd:o.guard=none)(s x:Operand)
  (ho:o.op= .call {callee:= .builtin .append,args:= #[s,x],argTypes:= #[59,59]})
  (base:Nat) (v:Value) (ms ns:List Nat) (u:Value) (hs:a.eval s=v) (hown:w.ownsRow base 3 1 v ms.length (dP ms)) (hx:a.eval x=u) (hu:IL w u ns) (hn:ms.length+ns.length<=1000000000) (hbase:base<=w.heap.size)
  (h:∀v' w',w'.ownsRow base 3 1 v' (ms++ns).length (dP (ms++ns))->w.grownBy w' v.ownBlock->wpList Tryz.prog ops Q rest (a.put o.dst v') w'):wpList Tryz.prog ops Q (o::rest) a w:=by
 obtain⟨i,hi,hz,hsize,hb⟩:=info_parts Tryz.infoIntR;obtain⟨ad,cap,rfl,_,hu⟩:=hu;rcases hu with rfl | ⟨g,of,rfl,hg,hc⟩
 ·refine wpList_plain hgd fun K hK=> ?_
  have hr:=rA (P:=Tryz.prog) w 59 o.type base 3 i 1 Tryz.underlying59 hi v ms.length (dP ms) hown ad cap;have hh:=h v w (by rw[cR];exact hown) ⟨rfl,rfl,rfl,aO _,fun _ _ _=>rfl⟩;unfold Oper.wp execOp;simp only[ho,resolve,invoke,builtin,Sem.run_bind,Sem.run_pure,Result.andThen_ok,cP,eM,eO,hs,hx,cT,hr];exact hK _ _ hh
 ·by_cases hz0:ns.length=0
  ·have e:ns= []:=bM.1 hz0;subst e;refine wpList_plain hgd fun K hK=> ?_
   have hr:=rA (P:=Tryz.prog) w 59 o.type base 3 i 1 Tryz.underlying59 hi v ms.length (dP ms) hown (some ⟨g,of,none⟩) cap;have hh:=h v w (by rw[cR];exact hown) ⟨rfl,rfl,rfl,aO _,fun _ _ _=>rfl⟩;unfold Oper.wp execOp;simp only[ho,resolve,invoke,builtin,Sem.run_bind,Sem.run_pure,Result.andThen_ok,cP,eM,eO,hs,hx,cT,hr];exact hK _ _ hh
  ·refine wpList_append_lies w hgd s x 59 ho base 3 i (.int .i64 0) 1 8 Tryz.underlying59 hi hz hsize hb rfl (by decide) v ms.length (dP ms) hs hown ⟨g,of,none⟩ ns.length cap (dP ns) hx (by unfold dP;simp) (fun j y hy=> ?_) (fun y hy=> ?_) (by omega) (by unfold maxLen;omega) (by omega) hbase _ rfl (fun g4 cap4 w4 h1 h2 _ _=>h _ w4 (by unfold dP at*;rw[List.map_append,bK];exact h1) h2)
   ·rw[iL];have hj:j<ns.length:=by have:=(aR.1 hy).1;unfold dP at this;rw[List.length_map]at this;exact this
    have hm:=kI (aL hj);rw[hm]at hy;injection hy with hy;rw[←hy];exact hc j _ (aL hj)
   ·unfold dP at hy;obtain⟨m,_,rfl⟩:=List.mem_map.1 hy
    rfl
theorem yW {w:World}{v u:Value}{ns ms:List Nat}(hv:IL w v ns)(hu:IL w u ms)(hn:ns.length+ms.length<=1000000000):
  Calls Tryz.prog 108 #[v,u] w fun e w'=>∃v',e= .returned v'/\Below w.heap.size w w'/\w'.ownsRow w.heap.size 3 1 v' (ns++ms).length (dP (ns++ms)):=by
 have HV:=aA hv;have HU:=aA hu;clear hv hu;go_enter Tryz.func108,Tryz.ntmps108;go_wp2_with (first
  | (at_builtin;refine wO w rfl (.tmp 6) (.tmp 7) rfl w.heap.size (.slice none 0 0) [] ns v rfl (cN _ _ _ 1) rfl HV.out (by simp;omega) (aO _) ?_;intro v1 w1 ho1 hg1;have HO1:=aA ho1;have HB1:Hid (Below w.heap.size w w1):=⟨hg1.os,hg1.tape,hg1.output,hg1.size,fun k hk=>hg1.block k hk (fun e=>by cases e)⟩;clear ho1 hg1)
  | (at_builtin;refine wO w1 rfl (.tmp 9) (.tmp 10) rfl w.heap.size v1 ([]++ns) ms u rfl HO1.out rfl (HU.out.below HB1.out (aO _)) (by simp;omega) HB1.out.size ?_;intro v2 w2 ho2 hg2;have HO2:=aA ho2;have HB2:Hid (Below w.heap.size w w2):=⟨hg2.os.trans HB1.out.os,hg2.tape.trans HB1.out.tape,hg2.output.trans HB1.out.output,eN HB1.out.size hg2.size,fun k hk=>(hg2.block k (Nat.lt_of_lt_of_le hk HB1.out.size) (fun e=>by have:=(HO1.out.lt k e.symm).1;omega)).trans (HB1.out.block k hk)⟩;clear ho2 hg2))
 go_ret;exact⟨v2,rfl,HB2.out,HO2.out⟩
end Go.Proofs.YtgjgjgihceijnaaGreat
namespace Go.Proofs.YtgjgjgihceijnaaGreat
open Go.RowKit Go.Stn
def gA (ra:Nat)(ns:List Nat)(rb:Nat)(ms:List Nat):Bool:=decide (ra=rb/\ns=ms)
theorem Og {ns ms:List Nat}(hl:ns.length=ms.length)(h:∀(j x y:Nat),ns[j]? =some x->ms[j]? =some y->x=y):ns=ms:=by
 apply List.ext_getElem?;intro j;by_cases hj:j<ns.length
 ·have h1:=aL hj;have h2:=aL (show j<ms.length by omega);rw[h1,h2,h j _ _ h1 h2]
 ·rw[bT (by omega),bT (by omega)]
theorem Ki {w:World}(ra rb:Nat){v u:Value}{ns ms:List Nat}(hv:IL w v ns)(hu:IL w u ms)(hl:ns.length<=1000000/\ms.length<=1000000):
  Calls Tryz.prog 110 #[.agg #[.int .i64 (ra:Int),v],.agg #[.int .i64 (rb:Int),u]] w fun e w'=>e= .returned (.bool (gA ra ns rb ms))/\Below w.heap.size w w':=by
 obtain⟨a,ca,rfl,_,hv⟩:=hv;obtain⟨b,cb,rfl,_,hu⟩:=hu;obtain⟨n,en⟩:∃n,ns.length=n:=⟨_,rfl⟩
 obtain⟨m,em⟩:∃m,ms.length=m:=⟨_,rfl⟩
 rw[en,em]at hl ⊢;have HLN:=aA en;have HLM:=aA em;have HV:=aA hv;have HU:=aA hu;clear en em hv hu;have HBL:Hid (Below w.heap.size w ((w.alloc (.cells #[.int .i64 (ra:Int),.slice a n ca] 188)).alloc (.cells #[.int .i64 (rb:Int),.slice b m cb] 188))):=((cL _ _).alloc (aO _) _).alloc (by simp) _;have e1:(w.alloc (.cells #[.int .i64 (ra:Int),.slice a n ca] 188)).heap.size=w.heap.size+1:=by simp
 have ho:((w.alloc (.cells #[.int .i64 (ra:Int),.slice a n ca] 188)).alloc (.cells #[.int .i64 (rb:Int),.slice b m cb] 188)).heap[w.heap.size]? =(w.alloc (.cells #[.int .i64 (ra:Int),.slice a n ca] 188)).heap[w.heap.size]? :=a9 (w.alloc _) _ _ (by omega);have a0:((w.alloc (.cells #[.int .i64 (ra:Int),.slice a n ca] 188)).alloc (.cells #[.int .i64 (rb:Int),.slice b m cb] 188)).cell? ⟨w.heap.size,0,none⟩=some (.int .i64 (ra:Int)):=(aT (a:=⟨w.heap.size,0,none⟩) ho).trans ((bC _ _ _ 0 rfl).trans rfl);have a1:((w.alloc (.cells #[.int .i64 (ra:Int),.slice a n ca] 188)).alloc (.cells #[.int .i64 (rb:Int),.slice b m cb] 188)).cell? ⟨w.heap.size,1,none⟩=some (.slice a n ca):=(aT (a:=⟨w.heap.size,1,none⟩) ho).trans ((bC _ _ _ 1 rfl).trans rfl);have b0:((w.alloc (.cells #[.int .i64 (ra:Int),.slice a n ca] 188)).alloc (.cells #[.int .i64 (rb:Int),.slice b m cb] 188)).cell? ⟨w.heap.size+1,0,none⟩=some (.int .i64 (rb:Int)):=(bC _ _ _ 0 e1.symm).trans rfl;have b1:((w.alloc (.cells #[.int .i64 (ra:Int),.slice a n ca] 188)).alloc (.cells #[.int .i64 (rb:Int),.slice b m cb] 188)).cell? ⟨w.heap.size+1,1,none⟩=some (.slice b m cb):=(bC _ _ _ 1 e1.symm).trans rfl;clear e1 ho;by_cases k1:ra=rb/\n=m
 ·obtain⟨h1,h2⟩:=k1;have d1:((ra:Int) !=(rb:Int))=false:=by rw[h1];simp
  have d2:((n:Int) !=(m:Int))=false:=by rw[h2];simp
  have HRR:=aA h1;have HNM:=aA h2;clear h1 h2;go_enter Tryz.func110,Tryz.ntmps110;go_wp2_with fail;generalize (w.alloc (.cells #[.int .i64 (ra:Int),.slice a n ca] 188)).alloc (.cells #[.int .i64 (rb:Int),.slice b m cb] 188)=W at*
  go_loopw [5] (fun z wr=>∃(i q:Nat),i<=n/\z= .int .i64 (i:Int)/\Hid (∀(j x y:Nat),j<i->ns[j]? =some x->ms[j]? =some y->x=y)/\wr=W.drewN q) (fun z _=>n - (intOf z).toNat)
  case atStart=>exact⟨0,0,by omega,rfl,aA (fun j x y hj=>absurd hj (by omega)),rfl⟩
  case round=>
   obtain⟨i,q,hi,rfl,HA,rfl⟩:=hrel;by_cases hlt:i<n
   ·have hltm:i<m:=by rw[←HNM.out];exact hlt
    obtain⟨x,hx⟩:∃x,ns[i]? =some x:=⟨ns[i]'(by rw[HLN.out];exact hlt),aL _⟩
    obtain⟨y,hy⟩:∃y,ms[i]? =some y:=⟨ms[i]'(by rw[HLM.out];exact hltm),aL _⟩
    obtain⟨g,o,rfl,hg,hc⟩:=HV.out.resolve_left (fun e=>by rw[e]at hx;simp at hx);obtain⟨g2,o2,rfl,hg2,hc2⟩:=HU.out.resolve_left (fun e=>by rw[e]at hy;simp at hy);have y1:W.cell? ⟨g,o+i,none⟩=some (.int .i64 (x:Int)):=(HBL.out.cell (p:=⟨g,o+i,none⟩) hg).trans (hc i x hx);have y2:W.cell? ⟨g2,o2+i,none⟩=some (.int .i64 (y:Int)):=(HBL.out.cell (p:=⟨g2,o2+i,none⟩) hg2).trans (hc2 i y hy);have hiI:(0:Int)<=(i:Int)/\(i:Int)<(n:Int):=by omega
    have hiJ:(0:Int)<=(i:Int)/\(i:Int)<(m:Int):=by omega
    have HX:=aA hx;have HY:=aA hy;clear hx hy hc hc2;by_cases exy:x=y
    ·have HA2:Hid (∀(j x y:Nat),j<i+1->ns[j]? =some x->ms[j]? =some y->x=y):=fun j p r hj hp hr=>by
      by_cases e:j=i
      ·subst e;rw[HX.out]at hp;rw[HY.out]at hr;injection hp with hp;injection hr with hr;rw[←hp,←hr];exact exy
      ·exact HA.out j p r (by omega) hp hr
     have dx:((x:Int) !=(y:Int))=false:=by rw[exy];simp
     clear exy;go_upto_region 6 with fail;go_big_region
     all_goals
      go_wp2;go_roundw
      case rel=>exact⟨i+1,q+1,hlt,by go_num,HA2,rfl⟩
      case measure=>simp[intOf];omega
    ·have HR:Hid (gA ra ns rb ms=false):=by
      unfold Hid gA;rw[decide_eq_false_iff_not];rintro⟨_,e⟩;have:=HX.out;rw[e,HY.out]at this;injection this with this;exact exy this.symm
     have dx:((x:Int) !=(y:Int))=true:=by rw[bne_iff_ne];omega
     clear exy;go_upto_region 6 with fail;go_big_region
     all_goals
      go_wp2;go_ret;exact⟨by rw[HR.out];rfl,HBL.out.os,HBL.out.tape,HBL.out.output,HBL.out.size,HBL.out.block⟩
   ·have HR:Hid (gA ra ns rb ms=true):=by
     unfold Hid gA;rw[decide_eq_true_eq];exact⟨HRR.out,Og (by rw[HLN.out,HLM.out];exact HNM.out) (fun j x y hx hy=>HA.out j x y (by have:=(aR.1 hx).1;rw[HLN.out]at this;omega) hx hy)⟩
    have dl:decide ((i:Int)<(n:Int))=false:=by simp;omega
    go_wp2;go_ret;exact⟨by rw[HR.out];rfl,HBL.out.os,HBL.out.tape,HBL.out.output,HBL.out.size,HBL.out.block⟩
 ·have HR:Hid (gA ra ns rb ms=false):=by
   unfold Hid gA;rw[decide_eq_false_iff_not];rintro⟨h1,h2⟩;exact k1 ⟨h1,by rw[←HLN.out,←HLM.out,h2]⟩
  by_cases k2:ra=rb
  ·have d1:((ra:Int) !=(rb:Int))=false:=by rw[k2];simp
   have d2:((n:Int) !=(m:Int))=true:=by rw[bne_iff_ne];intro e;exact k1 ⟨k2,by omega⟩
   clear k1 k2;go_enter Tryz.func110,Tryz.ntmps110;go_wp2;go_ret;exact⟨by rw[HR.out];rfl,HBL.out⟩
  ·have d1:((ra:Int) !=(rb:Int))=true:=by rw[bne_iff_ne];omega
   clear k1 k2;go_enter Tryz.func110,Tryz.ntmps110;go_wp2;go_ret;exact⟨by rw[HR.out];rfl,HBL.out⟩
end Go.Proofs.YtgjgjgihceijnaaGreat
namespace Go.Proofs.YtgjgjgihceijnaaGreat
open Go.RowKit Go.Stn
def ILb (w:World)(B:Nat)(ob:Option Nat)(v:Value)(ns:List Nat):Prop:=
 ∃a cap,v= .slice a ns.length cap/\ns.length<=cap/\(ns= []\/∃g o,a=some ⟨g,o,none⟩/\B<=g/\g<w.heap.size/\ob≠some g/\∀(i m:Nat),ns[i]? =some m->w.cell? ⟨g,o+i,none⟩=some (.int .i64 (m:Int)))
theorem ILb.il {w:World}{B:Nat}{ob:Option Nat}{v:Value}{ns:List Nat}(h:ILb w B ob v ns):IL w v ns:=by
 obtain⟨a,cap,e,hcp,h⟩:=h;refine⟨a,cap,e,hcp, ?_⟩;rcases h with h | ⟨g,o,h1,_,h2,_,h3⟩
 ·exact .inl h
 ·exact .inr ⟨g,o,h1,h2,h3⟩
theorem ILb.nil (w:World)(B:Nat)(ob:Option Nat):ILb w B ob (.slice none 0 0) []:=⟨none,0,rfl,aO _,.inl rfl⟩
theorem ILb.keep {w w':World}{B B':Nat}{ob ob':Option Nat}{v:Value}{ns:List Nat}(h:ILb w B ob v ns)(hz:w.heap.size<=w'.heap.size)(hB:∀k,B<=k->k<w.heap.size->ob≠some k->w'.heap[k]? =w.heap[k]? /\ob'≠some k)(hb:B'<=B):ILb w' B' ob' v ns:=by
 obtain⟨a,cap,e,hcp,h⟩:=h;refine⟨a,cap,e,hcp, ?_⟩;rcases h with h | ⟨g,o,h1,h0,h2,h3,h4⟩
 ·exact .inl h
 ·obtain⟨e1,e2⟩:=hB g h0 h2 h3;exact .inr ⟨g,o,h1,by omega,by omega,e2,fun i m hm=>(aT (w:=w) (a:=⟨g,o+i,none⟩) e1).trans (h4 i m hm)⟩
theorem ILb.of_row {w:World}{B B':Nat}{v:Value}{ns:List Nat}{ob:Option Nat}(h:w.ownsRow B 3 1 v ns.length (dP ns))(ho:∀k,ob=some k->k<B)(hb:B'<=B):ILb w B' ob v ns:=by
 obtain⟨a,cap,e⟩:=aK h;refine⟨a,cap,e,Jb (by rw[←e];exact h), ?_⟩;rcases bZ h with e2 | ⟨g,c2,e2⟩
 ·left;rw[e]at e2;injection e2 with _ e3 _;exact bM.1 e3
 ·right;have hlt:=h.lt g (by rw[e2];rfl);rw[e]at e2;injection e2 with e3 _ _;refine⟨g,0,e3,by omega,hlt.2,fun e4=>by have:=ho g e4;omega,fun i m hm=> ?_⟩;have:=h.cells (g:=g) (by rw[e,e3];rfl) i _ (kI hm);rw[iL]at this;exact this
structure LL (w:World)(B:Nat)(v:Value)(xs:List (List Nat))(vs:List Value):Prop where
 ro:w.ownsRow B 59 1 v xs.length vs
 el:∀(j:Nat) (u:Value) (x:List Nat),vs[j]? =some u->xs[j]? =some x->ILb w B v.ownBlock u x
theorem LL.start (w:World)(B:Nat):LL w B (.slice none 0 0) [] []:=⟨cN w B _ 1,fun j u x h=>by simp at h⟩
theorem LL.below {w w':World}{B:Nat}{v:Value}{xs:List (List Nat)}{vs:List Value}(h:LL w B v xs vs)(hB:Below w.heap.size w w'):LL w' B v xs vs:=
 ⟨cV h.ro (fun k hk=>hB.block k (h.ro.lt k hk).2),fun j u x hu hx=>(h.el j u x hu hx).keep hB.size (fun k _ hk h0=>⟨hB.block k hk,h0⟩) (aO _)⟩
theorem LL.app {w w4:World}{B:Nat}{v u:Value}{xs:List (List Nat)}{vs:List Value}{x:List Nat}(h:LL w B v xs vs)(hu:ILb w B v.ownBlock u x){o:Obj}{g cap:Nat}
  (hown:w4.ownsRow B 59 1 (.slice (some ⟨g,0,none⟩) (xs.length+1) cap) (xs.length+1) (vs++ [u])) (hgr:(w.alloc o).grownBy w4 v.ownBlock) (hat:v.ownBlock=some g\/g=w.heap.size+1):
  LL w4 B (.slice (some ⟨g,0,none⟩) (xs.length+1) cap) (xs++ [x]) (vs++ [u]):=by
 have hsz:=hgr.size;have ez:(w.alloc o).heap.size=w.heap.size+1:=by simp
 have hl:vs.length=xs.length:=by have:=h.ro.1;omega
 have keep:∀k,k<w.heap.size->v.ownBlock≠some k->w4.heap[k]? =w.heap[k]? /\(Value.slice (some ⟨g,0,none⟩) (xs.length+1) cap).ownBlock≠some k:=fun k hk h0=>by
  refine⟨(hgr.block k (by omega) (fun e=>h0 e.symm)).trans (a9 w o k hk),fun e=> ?_⟩;have e:g=k:=by simpa[eL]using e
  subst e;rcases hat with e1 | e1
  ·exact h0 e1
  ·omega
 refine⟨by rw[bK,cF];exact hown,fun j a b ha hb=> ?_⟩;by_cases hj:j<vs.length
 ·rw[bS hj]at ha;rw[bS (by omega)]at hb;exact(h.el j a b ha hb).keep (by omega) (fun k _=>keep k) (aO _)
 ·have hlt:=(aR.1 ha).1;rw[bK,cF]at hlt;have e:j=vs.length:=by omega
  subst e;rw[bO (aO _),eR]at ha;rw[hl,bO (aO _),eR]at hb;have ea:u=a:=by simpa using ha
  have eb:x=b:=by simpa using hb
  subst ea eb;exact hu.keep (by omega) (fun k _=>keep k) (aO _)
def LLr (w:World)(B:Nat)(v:Value)(xs:List (List Nat)):Prop:=
 ∃a cap,v= .slice a xs.length cap/\(xs= []\/∃g,a=some ⟨g,0,none⟩/\B<=g/\g<w.heap.size/\∀(k:Nat) (x:List Nat),xs[k]? =some x->∃u,w.cell? ⟨g,k,none⟩=some u/\ILb w B none u x)
theorem LLr.keep {w w':World}{B B':Nat}{v:Value}{xs:List (List Nat)}(h:LLr w B v xs)(hz:w.heap.size<=w'.heap.size)(hB:∀k,B<=k->k<w.heap.size->w'.heap[k]? =w.heap[k]?)(hb:B'<=B):LLr w' B' v xs:=by
 obtain⟨a,cap,e,h⟩:=h;refine⟨a,cap,e, ?_⟩;rcases h with h | ⟨g,h1,h2,h3,h4⟩
 ·exact .inl h
 ·refine .inr ⟨g,h1,by omega,by omega,fun k x hx=> ?_⟩;obtain⟨u,h5,h6⟩:=h4 k x hx;exact⟨u,(aT (w:=w) (a:=⟨g,k,none⟩) (hB g h2 h3)).trans h5,h6.keep hz (fun k h1 h2 _=>⟨hB k h1 h2,fun e=>by cases e⟩) hb⟩
theorem LL.read {w:World}{B:Nat}{v:Value}{xs:List (List Nat)}{vs:List Value}(h:LL w B v xs vs):LLr w B v xs:=by
 obtain⟨a,cap,e⟩:=aK h.ro;refine⟨a,cap,e, ?_⟩;have hl:vs.length=xs.length:=by have:=h.ro.1;omega
 rcases bZ h.ro with e2 | ⟨g,c2,e2⟩
 ·left;rw[e]at e2;injection e2 with _ e3 _;exact bM.1 e3
 ·right;have hlt:=h.ro.lt g (by rw[e2];rfl);rw[e]at e2;injection e2 with e3 _ _;refine⟨g,e3,hlt.1,hlt.2,fun k x hx=> ?_⟩;have hk:k<vs.length:=by have:=(aR.1 hx).1;omega
  have hu:=aL hk;have hc:=h.ro.cells (g:=g) (by rw[e,e3];rfl) k _ hu;rw[iL,Nat.zero_add]at hc;exact⟨_,hc,(h.el k _ x hu hx).keep (aO _) (fun _ _ _ _=>⟨rfl,fun e=>by cases e⟩) (aO _)⟩
structure RI (w w1:World)(vo1:Value)(wr:World)(vo:Value)(xs:List (List Nat)):Prop where
 ll:∃vs,LL wr w.heap.size vo xs vs
 gr:w1.grownBy wr vo1.ownBlock
 ow:∀g,vo.ownBlock=some g->vo1.ownBlock=some g\/w1.heap.size<=g
 bl:Below w.heap.size w wr
theorem RI.start (w:World):RI w w (.slice none 0 0) w (.slice none 0 0) []:=⟨⟨[],LL.start w _⟩,⟨rfl,rfl,rfl,aO _,fun _ _ _=>rfl⟩,fun g e=>(by cases e),cL _ _⟩
theorem RI.from {w w1 wr:World}{vo1 vo:Value}{xs:List (List Nat)}(h:RI w w1 vo1 wr vo xs):RI w wr vo wr vo xs:=⟨h.ll,⟨rfl,rfl,rfl,aO _,fun _ _ _=>rfl⟩,fun _ e=> .inl e,h.bl⟩
theorem RI.below {w w1 wr w':World}{vo1 vo:Value}{xs:List (List Nat)}(h:RI w w1 vo1 wr vo xs)(hB:Below wr.heap.size wr w'):RI w w1 vo1 w' vo xs:=by
 obtain⟨vs,h1⟩:=h.ll;have hz:=h.gr.size;have hz2:=h.bl.size;have hz3:=hB.size;refine⟨⟨vs,h1.below hB⟩,⟨hB.os.trans h.gr.os,hB.tape.trans h.gr.tape,hB.output.trans h.gr.output,by omega,fun k hk hne=>(hB.block k (by omega)).trans (h.gr.block k hk hne)⟩,h.ow,⟨hB.os.trans h.bl.os,hB.tape.trans h.bl.tape,hB.output.trans h.bl.output,by omega,fun k hk=>(hB.block k (by omega)).trans (h.bl.block k hk)⟩⟩
theorem RI.app {w w1 wr w4:World}{vo1 vo u:Value}{xs:List (List Nat)}{x:List Nat}{n:Nat}(h:RI w w1 vo1 wr vo xs)(hu:ILb wr w.heap.size vo.ownBlock u x)(hn:xs.length=n){vs:List Value}(hl:LL wr w.heap.size vo xs vs){o:Obj}{g cap:Nat}
  (hown:w4.ownsRow w.heap.size 59 1 (.slice (some ⟨g,0,none⟩) (n+1) cap) (n+1) (vs++ [u])) (hgr:(wr.alloc o).grownBy w4 vo.ownBlock) (hat:vo.ownBlock=some g\/g=wr.heap.size+1):
  RI w w1 vo1 w4 (.slice (some ⟨g,0,none⟩) (n+1) cap) (xs++ [x]):=by
 subst hn;have hsz:=hgr.size;have ez:(wr.alloc o).heap.size=wr.heap.size+1:=by simp
 have hz:=h.gr.size;have hz2:=h.bl.size;refine⟨⟨_,hl.app hu hown hgr hat⟩,⟨hgr.os.trans h.gr.os,hgr.tape.trans h.gr.tape,hgr.output.trans h.gr.output,by omega,fun k hk hne=> ?_⟩,fun k e=> ?_,⟨hgr.os.trans h.bl.os,hgr.tape.trans h.bl.tape,hgr.output.trans h.bl.output,by omega,fun k hk=> ?_⟩⟩
 ·refine((hgr.block k (by omega) (fun e=> ?_)).trans (a9 wr o k (by omega))).trans (h.gr.block k hk hne);rcases h.ow k e.symm with e1 | e1
  ·exact hne e1.symm
  ·omega
 ·have e:g=k:=by simpa[eL]using e
  subst e;rcases hat with e1 | e1
  ·exact h.ow g e1
  ·right;omega
 ·exact((hgr.block k (by omega) (fun e=>by have:=(hl.ro.lt k e.symm).1;omega)).trans (a9 wr o k (by omega))).trans (h.bl.block k hk)
end Go.Proofs.YtgjgjgihceijnaaGreat
