import Derived.Test.YtgjgjgihceijnaaGreatG14
import Derived.Laws.Tables
import Derived.Great.BuildSlice
import Derived.Great.Ranges
import Derived.Deep.OwnRows
import Derived.Deep.DrawnRows
open Go.RowKit.Below renaming heap_alloc->aL,refl->gL
open Go.World renaming cell?_of_block->aO,frozen?_setCell->aT,cell?_setCell_other->bC,frozen?_of_block->bO,setCell->cT,ownsRow_nil->eN
open Go.Value renaming string->aR,int->cL,oneCell'->cP,slice->eR,ownBlock->eX
open Nat renaming lt_of_lt_of_le->bD,le_refl->bN,le_succ->bS,zero_add->cO,lt_succ_self->eO,zero_le->eS
open List renaming getElem?_cons_succ->bK,getElem?_cons_zero->bM,getElem?_eq_some_iff->cF,getElem?_range->cR,getElem?_map->eM,range->gN
open Array renaming length_toList->bT,getElem?_eq_none->cN,all_eq_true->eL
open ByteArray renaming empty->eT
set_option maxRecDepth 100000
set_option maxHeartbeats 8000000
namespace Go.Stn
open Go.RowKit
theorem Oe (off:Nat):∀(l:List Value) (n:Nat) (Z:Array Value),((l.zipIdx n).foldl (fun cs x=>cs.setIfInBounds (off+x.2) x.1) Z).size=Z.size/\
  ∀k,((l.zipIdx n).foldl (fun cs x=>cs.setIfInBounds (off+x.2) x.1) Z)[k]? =if off+n<=k/\k<off+n+l.length/\k<Z.size then l[k - (off+n)]? else Z[k]? :=by
 intro l
 induction l with
 | nil=>intro n Z;refine⟨rfl,fun k=> ?_⟩;rw[if_neg (by simp;omega)];rfl
 | cons v r ih=>
  intro n Z;rw[List.zipIdx_cons,List.foldl_cons];obtain⟨h1,h2⟩:=ih (n+1) (Z.setIfInBounds (off+n) v);refine⟨by rw[h1];simp,fun k=> ?_⟩;rw[h2 k];simp only[Array.size_setIfInBounds,List.length_cons];by_cases e:k=off+n
  ·subst e;rw[if_neg (by omega)];by_cases hz:off+n<Z.size
   ·rw[if_pos (by omega),Array.getElem?_setIfInBounds_self_of_lt hz];simp
   ·rw[if_neg (by omega),cN (by simp;omega),cN (by omega)]
  ·by_cases hc:off+(n+1)<=k/\k<off+(n+1)+r.length/\k<Z.size
   ·rw[if_pos hc,if_pos (by omega),show k - (off+n)=(k - (off+(n+1)))+1 by omega,bK]
   ·rw[if_neg hc,if_neg (by omega),Array.getElem?_setIfInBounds_ne (by omega)]
theorem D4 {A:Array Value}{q:Value->Bool}(h:A.all q=true){i:Nat}{v:Value}(hv:A[i]? =some v):q v=true:=by
 rw[eL]at h;obtain⟨hi,rfl⟩:=Array.getElem?_eq_some_iff.1 hv;exact h i hi
theorem E0 (off:Nat)(A Z:Array Value):(A.zipIdx.foldl (fun cs x=>cs.setIfInBounds (off+x.2) x.1) Z).size=Z.size/\
  ∀k,(A.zipIdx.foldl (fun cs x=>cs.setIfInBounds (off+x.2) x.1) Z)[k]? =if off<=k/\k<off+A.size/\k<Z.size then A[k - off]? else Z[k]? :=by
 have h:=Oe off A.toList 0 Z;have e:A.zipIdx.foldl (fun cs x=>cs.setIfInBounds (off+x.2) x.1) Z=(A.toList.zipIdx 0).foldl (fun cs x=>cs.setIfInBounds (off+x.2) x.1) Z:=by
  rw[←Array.foldl_toList,Array.toList_zipIdx]
 rw[e];refine⟨h.1,fun k=> ?_⟩;rw[h.2 k];simp
end Go.Stn
namespace Go.Proofs.YtgjgjgihceijnaaGreat
open Go.RowKit Go.Stn
theorem Tryz.cutZero:((Tryz.prog.info? 141).map (·.zero))=some (some (.agg Tryz.zeroCells141)):=by kernel_rfl
theorem Tryz.cutZeroTail:(gN 6).map (fun k=>Tryz.zeroCells141[258+k]?)= [some (.string eT),some (.int .i64 0),some (.int .i64 0),some (.int .i64 0),some (.slice none 0 0),some (.slice none 0 0)]:=by kernel_rfl
theorem Tryz.cutZeroSize:Tryz.zeroCells141.size=264:=by kernel_rfl
theorem Tryz.cutSize:(Tryz.prog.info? 141).map (·.size)=some 264:=by kernel_rfl
theorem Tryz.cutZeroOne:Tryz.zeroCells141.all (·.oneCell')=true:=by kernel_rfl
theorem Tryz.cutPlaces:(match Tryz.prog.underlying 141 with
  | some (.struct fs)=>fs.toList.mapM (fun f=>(Tryz.prog.info? f.type).map fun i=>(f.offset,i.size))
  | _=>none)=some [(0,258),(258,1),(259,1),(260,1),(261,1),(262,1),(263,1)]:=by kernel_rfl
theorem Tryz.cutBuilt (parts:List (Nat×Value)):Tryz.prog.built 141 parts=Instr.fill ([(0,258),(258,1),(259,1),(260,1),(261,1),(262,1),(263,1)].toArray[·]?) Tryz.zeroCells141 parts:=by
 have h0:=Tryz.cutZero;have hp:=Tryz.cutPlaces;generalize Tryz.zeroCells141=Z at*;unfold Program.built
 cases hi:Tryz.prog.info? 141 with
 | none=>rw[hi]at h0;cases h0
 | some it=>
  rw[hi]at h0;have hz:it.zero=some (.agg Z):=by simpa using h0
  cases hu:Tryz.prog.underlying 141 with
  | none=>rw[hu]at hp;cases hp
  | some d=>
   rw[hu]at hp
   cases d with
   | struct fs=>
    simp only at hp;simp only[hz,hp,Value.cells]
   | _=>cases hp
theorem Kz (A:Array Value)(hA:A.size=258)(hone:A.all (·.oneCell')=true)(inp:ByteArray)(c0:Int):∃C:Array Value,Tryz.prog.built 141 [(0,.agg A),(1,.string inp),(2,.int .i64 c0)]=some C/\C.size=264/\C.all (·.oneCell')=true/\
  (∀k,k<258->C[k]? =A[k]?)/\C[258]? =some (.string inp)/\C[259]? =some (.int .i64 c0)/\C[260]? =some (.int .i64 0)/\C[261]? =some (.int .i64 0)/\C[262]? =some (.slice none 0 0)/\C[263]? =some (.slice none 0 0):=by
 have hz:=Tryz.cutZeroSize;have ht:=Tryz.cutZeroTail;have ho:=Tryz.cutZeroOne;rw[Tryz.cutBuilt];generalize Tryz.zeroCells141=Z at*;have htl:∀k v,[some (aR eT),some (.int .i64 0),some (.int .i64 0),some (.int .i64 0),some (.slice none 0 0),some (.slice none 0 0)][k]? =some v->k<6->Z[258+k]? =v:=fun k v hk h6=>by
  rw[←ht,eM,cR h6]at hk;simpa using hk
 obtain⟨s1,g1⟩:=E0 0 A Z;obtain⟨s2,g2⟩:=E0 258 #[aR inp] (A.zipIdx.foldl (fun cs x=>cs.setIfInBounds (0+x.2) x.1) Z);obtain⟨s3,g3⟩:=E0 259 #[cL .i64 c0] (#[aR inp].zipIdx.foldl (fun cs x=>cs.setIfInBounds (258+x.2) x.1) (A.zipIdx.foldl (fun cs x=>cs.setIfInBounds (0+x.2) x.1) Z));refine⟨#[cL .i64 c0].zipIdx.foldl (fun cs x=>cs.setIfInBounds (259+x.2) x.1) (#[aR inp].zipIdx.foldl (fun cs x=>cs.setIfInBounds (258+x.2) x.1) (A.zipIdx.foldl (fun cs x=>cs.setIfInBounds (0+x.2) x.1) Z)), ?_,by rw[s3,s2,s1,hz], ?_,fun k hk=> ?_, ?_, ?_, ?_, ?_, ?_, ?_⟩
 ·have e1:(Value.agg A).cells=A:=rfl;have e2:(aR inp).cells= #[aR inp]:=rfl;have e3:(cL .i64 c0).cells= #[cL .i64 c0]:=rfl;unfold Instr.fill;simp only[List.getElem?_toArray,bM,e1,hA,hz];rw[if_neg (by decide)];unfold Instr.fill;simp only[bK,bM,e2];rw[if_neg (by rw[s1,hz];simp)];unfold Instr.fill;simp only[bK,bM,e3];rw[if_neg (by rw[s2,s1,hz];simp)];unfold Instr.fill
  rfl
 ·rw[eL];intro i hi;have hv:=Array.getElem?_eq_getElem hi;have hi2:=hi;rw[s3,s2,s1,hz]at hi2;rw[g3,g2,g1]at hv;generalize (#[cL .i64 c0].zipIdx.foldl (fun cs x=>cs.setIfInBounds (259+x.2) x.1) (#[aR inp].zipIdx.foldl (fun cs x=>cs.setIfInBounds (258+x.2) x.1) (A.zipIdx.foldl (fun cs x=>cs.setIfInBounds (0+x.2) x.1) Z)))[i]=u at*;split at hv
  ·rename_i hc;have e:i - 259=0:=by have:=hc.2.1;simp at this;omega
   rw[e]at hv;have hq:(#[cL .i64 c0]:Array Value).all (·.oneCell')=true:=by simp[cP]
   exact D4 hq hv
  ·split at hv
   ·rename_i hc;have e:i - 258=0:=by have:=hc.2.1;simp at this;omega
    rw[e]at hv;have hq:(#[aR inp]:Array Value).all (·.oneCell')=true:=by simp[cP]
    exact D4 hq hv
   ·split at hv
    ·exact D4 hone hv
    ·exact D4 ho hv
 ·rw[g3,if_neg (by omega),g2,if_neg (by omega),g1,if_pos (by omega)];rfl
 ·rw[g3,if_neg (by omega),g2,if_pos ⟨by omega,by simp,by rw[s1,hz];omega⟩];rfl
 ·rw[g3,if_pos ⟨by omega,by simp,by rw[s2,s1,hz];omega⟩];rfl
 ·rw[g3,if_neg (by simp),g2,if_neg (by simp),g1,if_neg (by omega)];exact htl 2 _ rfl (by omega)
 ·rw[g3,if_neg (by simp),g2,if_neg (by simp),g1,if_neg (by omega)];exact htl 3 _ rfl (by omega)
 ·rw[g3,if_neg (by simp),g2,if_neg (by simp),g1,if_neg (by omega)];exact htl 4 _ rfl (by omega)
 ·rw[g3,if_neg (by simp),g2,if_neg (by simp),g1,if_neg (by omega)];exact htl 5 _ rfl (by omega)
end Go.Proofs.YtgjgjgihceijnaaGreat
namespace Go.Proofs.YtgjgjgihceijnaaGreat
open Go.RowKit Go.Stn
def Ej (s inp:ByteArray)(hbk:Nat->Nat)(m:Nat):List Value:=(gN m).map fun j=>eR (some ⟨hbk j,0,none⟩) (nSt s j*inp.size) (nSt s j*inp.size)
structure CW0 (w:World)(cb:Nat)(s inp:ByteArray)(bb vg vcap:Nat)(yb:Nat->Nat)(zb:Nat->Nat->Nat)(vh:Value)(hbk:Nat->Nat)(c0 m:Nat):Prop where
 mem:IM w s bb vg yb zb cb
 im:w.rangeAt cb 0 (jU (.slice (some ⟨bb,0,none⟩) (iR s) (iR s)) (bL s) (.slice (some ⟨vg,0,none⟩) (iM s) vcap))
 k1:w.cell? ⟨cb,258,none⟩=some (.string inp)
 k2:w.cell? ⟨cb,259,none⟩=some (.int .i64 c0)
 k3:w.cell? ⟨cb,260,none⟩=some (.int .i64 0)
 k4:w.cell? ⟨cb,261,none⟩=some (.int .i64 0)
 k5:w.cell? ⟨cb,262,none⟩=some (.slice none 0 0)
 k6:w.cell? ⟨cb,263,none⟩=some vh
 fz:∀i,w.frozen? ⟨cb,i,none⟩=false
 rh:w.ownsRow (cb+1) 80 1 vh m (Ej s inp hbk m)
 tb:∀j k,j<m->k<nSt s j*inp.size->w.cell? ⟨hbk j,k,none⟩=some (.bool false)/\w.frozen? ⟨hbk j,k,none⟩=false
 hb:cb<w.heap.size
 b2:∀j,j<m->cb<hbk j/\hbk j<w.heap.size/\vh.ownBlock≠some (hbk j)
 bi:∀i j,i<m->j<m->hbk i=hbk j->i=j
variable {w w':World} {cb:Nat} {s inp:ByteArray} {bb vg vcap:Nat} {yb:Nat->Nat} {zb:Nat->Nat->Nat} {vh:Value} {hbk:Nat->Nat} {c0 m:Nat}
theorem Bi (n k:Nat)(h:k<n):(madeCells #[Value.bool false] n)[k]? =some (.bool false):=by
 unfold madeCells;rw[Array.getElem?_map,Array.getElem?_range,if_pos h];simp[Nat.mod_one]
theorem CW0.more (h:CW0 w cb s inp bb vg vcap yb zb vh hbk c0 m){e1:TypeId}{o:Obj}{w4:World}{NL g cap:Nat}(hNL:nSt s m*inp.size=NL)
  (hown:w4.ownsRow (cb+1) 80 1 (.slice (some ⟨g,0,none⟩) (m+1) cap) (m+1) (Ej s inp hbk m++ [.slice (some ⟨w.heap.size,0,none⟩) NL NL]))
  (hgrow:((w.alloc (.cells (madeCells #[.bool false] NL) e1)).alloc o).grownBy w4 vh.ownBlock) (hat:vh.ownBlock=some g\/g=w.heap.size+2):
  CW0 (w4.setCell ⟨cb,263,none⟩ (.slice (some ⟨g,0,none⟩) (m+1) cap)) cb s inp bb vg vcap yb zb (.slice (some ⟨g,0,none⟩) (m+1) cap) (fun j=>if j=m then w.heap.size else hbk j) c0 (m+1):=by
 have b0:=h.hb;have hsz:=hgrow.size;simp at hsz;have hvl:∀k,vh.ownBlock=some k->cb<k/\k<w.heap.size:=fun k hk=>by have:=h.rh.lt k hk;omega
 have blk:∀k,k<w.heap.size->vh.ownBlock≠some k->w4.heap[k]? =w.heap[k]? :=fun k hk hv=>((hgrow.block k (by simp;omega) (fun e=>hv e.symm)).trans (aL _ o k (by simp;omega))).trans (aL w _ k hk)
 have blkN:w4.heap[w.heap.size]? =some (.cells (madeCells #[.bool false] NL) e1 (0,0)):=((hgrow.block _ (by simp;omega) (fun e=>by have:=hvl _ e.symm;omega)).trans (aL _ o _ (by simp))).trans (heap_alloc_new w _);have ncb:vh.ownBlock≠some cb:=fun e=>by have:=hvl cb e;omega
 have bel:Below cb w w4:=⟨hgrow.os,hgrow.tape,hgrow.output,by omega,fun k hk=>blk k (by omega) (fun e=>by have:=hvl k e;omega)⟩
 have cc:∀i,w4.cell? ⟨cb,i,none⟩=w.cell? ⟨cb,i,none⟩:=fun i=>aO (w:=w) (a:=⟨cb,i,none⟩) (blk cb b0 ncb)
 have cf:∀i,w4.frozen? ⟨cb,i,none⟩=w.frozen? ⟨cb,i,none⟩:=fun i=>bO (w:=w) (a:=⟨cb,i,none⟩) (blk cb b0 ncb)
 have hlen:∀j u,(jU (.slice (some ⟨bb,0,none⟩) (iR s) (iR s)) (bL s) (.slice (some ⟨vg,0,none⟩) (iM s) vcap))[j]? =some u->j<258:=fun j u hu=>by
  have:=(cF.1 hu).1;rw[lX _ _ _ (by unfold bL;rw[jJ];rfl)]at this;exact this
 have oc:∀j u,j≠263->w.cell? ⟨cb,j,none⟩=some u->(w4.setCell ⟨cb,263,none⟩ (.slice (some ⟨g,0,none⟩) (m+1) cap)).cell? ⟨cb,j,none⟩=some u:=fun j u hj hu=>by
  rw[bC (h:=by intro e;injection e;omega),cc];exact hu
 have hg2:∀k,k<w.heap.size->vh.ownBlock≠some k->(eR (some ⟨g,0,none⟩) (m+1) cap).ownBlock≠some k:=fun k hk hv e=>by
  have e':g=k:=by simpa[eX]using e
  subst e';rcases hat with h1 | h1
  ·exact hv h1
  ·omega
 refine⟨(h.mem.below bel (bN _)).below (mL (bN _)) (bN _),fun j u hu=>oc _ _ (by have:=hlen j u hu;omega) (h.im j u hu),oc _ _ (by omega) h.k1,oc _ _ (by omega) h.k2,oc _ _ (by omega) h.k3,oc _ _ (by omega) h.k4,oc _ _ (by omega) h.k5,
  World.cell?_setCell_same (u:=vh) _ _ _ ((cc 263).trans h.k6),fun i=>by rw[aT,cf];exact h.fz i, ?_,fun j k hj hk=> ?_,by simp[cT];omega,fun j hj=> ?_,fun i j hi hj he=> ?_⟩
 ·have e:Ej s inp (fun j=>if j=m then w.heap.size else hbk j) (m+1)=Ej s inp hbk m++ [.slice (some ⟨w.heap.size,0,none⟩) NL NL]:=by
   unfold Ej;rw[List.range_succ,List.map_append,List.map_singleton];congr 1
   ·refine List.map_congr_left (fun j hj=> ?_);simp only;rw[if_neg (by have:=List.mem_range.1 hj;omega)]
   ·simp only[if_pos];rw[hNL]
  rw[e];exact ownsRow_setCell_below hown (eO _) _
 ·by_cases e:j=m
  ·subst e;rw[if_pos rfl];rw[hNL]at hk;refine⟨?_, ?_⟩
   ·rw[bC (h:=by intro e;injection e;omega)];unfold World.cell?;simp only[blkN];exact Bi NL k hk
   ·rw[aT];unfold World.frozen?;simp only[blkN];simp
  ·rw[if_neg e];have hj':j<m:=by omega
   have b:=h.b2 j hj';have bq:=blk _ b.2.1 b.2.2;refine⟨?_, ?_⟩
   ·rw[bC (h:=by intro e;injection e;omega),aO (w:=w) (a:=⟨hbk j,k,none⟩) bq];exact(h.tb j k hj' hk).1
   ·rw[aT,bO (w:=w) (a:=⟨hbk j,k,none⟩) bq];exact(h.tb j k hj' hk).2
 ·by_cases e:j=m
  ·subst e;simp only[if_pos];refine⟨b0,by simp[cT];omega,fun e'=> ?_⟩;have e2:g=w.heap.size:=by simpa[eX]using e'
   rcases hat with h1 | h1
   ·have:=hvl g h1;omega
   ·omega
  ·simp only[if_neg e];have b:=h.b2 j (by omega);exact⟨b.1,by simp[cT];omega,hg2 _ b.2.1 b.2.2⟩
 ·by_cases e1:i=m
  ·by_cases e2:j=m
   ·omega
   ·simp only[if_pos e1,if_neg e2]at he;have:=(h.b2 j (by omega)).2.1;omega
  ·by_cases e2:j=m
   ·simp only[if_neg e1,if_pos e2]at he;have:=(h.b2 i (by omega)).2.1;omega
   ·simp only[if_neg e1,if_neg e2]at he;exact h.bi i j (by omega) (by omega) he
theorem CW0.drew (h:CW0 w cb s inp bb vg vcap yb zb vh hbk c0 m):CW0 w.drew cb s inp bb vg vcap yb zb vh hbk c0 m:=⟨h.mem.drewN 1,h.im,h.k1,h.k2,h.k3,h.k4,h.k5,h.k6,h.fz,h.rh,h.tb,h.hb,h.b2,h.bi⟩
theorem CW0.done (h:CW0 w cb s inp bb vg vcap yb zb vh hbk c0 (iM s))(hM:1<=iM s):∃hg hcap,CW w cb w.heap.size s inp bb vg vcap yb zb (.slice none 0 0) hg hcap hbk (fun _ _=>false) c0 0 0 []:=by
 have hlt:=h.rh.lt;have hrh:=h.rh;obtain⟨g,cap,hv,hbg,hgl⟩:=h.rh.form (by omega);have hk6:=h.k6;have hb2:=h.b2;rw[hv]at hlt hrh hk6 hb2;refine⟨g,cap,h.mem,h.im,h.k1,h.k2,h.k3,h.k4,h.k5,hk6,h.fz,eN _ _ _ _,fun j hj=> ?_,h.tb,h.hb, ?_,fun j hj=> ?_,h.bi,fun k hk=> ?_,bN _⟩
 ·have:=lQ hrh j (.slice (some ⟨hbk j,0,none⟩) (nSt s j*inp.size) (nSt s j*inp.size)) (by unfold Ej;rw[eM,cR hj];rfl);rw[cO]at this;exact this
 ·have:=hlt g rfl;omega
 ·have b:=hb2 j hj;refine⟨b.1,b.2.1,fun e=>b.2.2 ?_⟩;rw[e];rfl
 ·cases hk
theorem Pb (s inp:ByteArray):vZ s inp [] (fun _ _=>false):=fun _ _ _ _ _ _=>by simp[oR]
end Go.Proofs.YtgjgjgihceijnaaGreat
namespace Go.Stn
open Go.RowKit
theorem IM.mono {w:World}{s:ByteArray}{bb vg:Nat}{yb:Nat->Nat}{zb:Nat->Nat->Nat}{top top':Nat}(h:IM w s bb vg yb zb top)(ht:top<=top'):IM w s bb vg yb zb top':=
 ⟨h.be,h.co,h.tk,h.nx,h.ld,bD h.b0 ht,bD h.b1 ht,fun c hc=>bD (h.b2 c hc) ht,fun c st hc hs=>bD (h.b3 c st hc hs) ht⟩
end Go.Stn
namespace Go.Proofs.YtgjgjgihceijnaaGreat
open Go.RowKit Go.Stn
theorem Tryz.infoBool:(Tryz.prog.info? 4).map (fun i=>(i.zero,i.size,i.bytes))=some (some (.bool false),1,1):=by kernel_rfl
theorem Tryz.infoBools:(Tryz.prog.info? 80).map (fun i=>(i.zero,i.size,i.bytes))=some (some (.slice none 0 0),1,24):=by kernel_rfl
def Mr:Value->Nat
 | .int _ z=>z.toNat
 | _=>0
def Vp (v:Value):Prop:=∃z:Nat,v= .int .i64 (z:Int)/\z<=30000
theorem Tryz.wpMakeBools {d:Option Tmp}{x:Operand}{ty:TypeId}{p:String}{af:Array Edge}{gd:Option (Nat×Bool)}{a:Act}{X:World}{K:Act->World->Prop}{Q:Exit->Act->World->Prop}
  (h:Vp (a.eval x)):
  Oper.wp Tryz.prog {dst:=d,op:= .makeSlice 80 x x,type:=ty,pos:=p,after:=af,guard:=gd} a X K Q=K (a.put d (.slice (some ⟨X.heap.size,0,none⟩) (Mr (a.eval x)) (Mr (a.eval x)))) (X.alloc (.cells (madeCells #[.bool false] (Mr (a.eval x))) 4)):=by
 obtain⟨z,hz,hl⟩:=h;have hr:=run_make_row' (P:=Tryz.prog) 80 4 (.bool false) 1 Tryz.underlying80 Tryz.infoBool rfl .i64 .i64 z (by omega) (by omega) X;unfold Oper.wp execOp;simp only[hz,Sem.run_bind,hr,Result.andThen_ok,Mr,Int.toNat_natCast]
 rfl
theorem oE:∀(vs:List Value) (o:Nat) (w:World) (b:Nat) (a:Addr),(w.setCells b o vs).frozen? a=w.frozen? a:=by
 intro vs
 induction vs with
 | nil=>intro o w b a;rfl
 | cons v r ih=>intro o w b a;exact(ih (o+1) _ b a).trans (aT _ _ _ _)
theorem N3 {B:Nat}{a w:World}(h:Below B a w):Below B a w.drew:=⟨h.os,h.tape,h.output,h.size,h.block⟩
def We (w:World)(s inp:ByteArray)(c0:Nat)(e:Ending)(w':World):Prop:=
 ∃vt,e= .returned (.tuple #[vt,.int .i64 ((rC s inp c0).2.1:Nat),.int .i64 ((rC s inp c0).2.2:Nat)])/\w'.ownsRow (w.heap.size+1+1) 79 3 vt (rC s inp c0).1.length (dZ (rC s inp c0).1)/\Below w.heap.size w w'
attribute [local go_sem ↓] Go.wp_at_zero Go.wp_at_succ Tryz.wpMakeBools
theorem Sf (s inp:ByteArray)(c0 bb vg vcap:Nat)(yb:Nat->Nat)(zb:Nat->Nat->Nat)(A:Array Value)(w:World)(hi:fV s=true)(hin:inp.size<=300)(hc0:c0<iM s)
  (hA:A.toList=jU (.slice (some ⟨bb,0,none⟩) (iR s) (iR s)) (bL s) (.slice (some ⟨vg,0,none⟩) (iM s) vcap)) (hm:IM w s bb vg yb zb w.heap.size):
  Calls Tryz.prog 25 #[.agg A,.int .i64 (c0:Int),.string inp] w fun e w'=>We w s inp c0 e w':=by
 have hlen:=lX (.slice (some ⟨bb,0,none⟩) (iR s) (iR s)) (bL s) (.slice (some ⟨vg,0,none⟩) (iM s) vcap) (by unfold bL;rw[jJ];rfl);have hone:=wR (vb:= .slice (some ⟨bb,0,none⟩) (iR s) (iR s)) (vc:= .slice (some ⟨vg,0,none⟩) (iM s) vcap) (cs:=bL s) rfl rfl;have hAs:A.size=258:=by rw[←bT,hA];exact hlen
 have hAo:A.all (·.oneCell')=true:=by
  rw[←hA]at hone;have:=all_oneCell_toArray hone;simpa using this
 obtain⟨C,hbu,hCs,hCo,hC0,hC1,hC2,hC3,hC4,hC5,hC6⟩:=Kz A hAs hAo inp (c0:Int);have HRA:Hid ((w.alloc (.cells A 72)).rangeAt w.heap.size 0 A.toList):=gI w A _;have HT:=aA (bI (w.alloc (.cells A 72)) Tryz.zeroCells141 141 (w.heap.size+1) 264 Tryz.cutZeroSize (by simp));have HBS:Hid (Below (w.heap.size+1) (w.alloc (.cells A 72)) (((w.alloc (.cells A 72)).alloc (.cells Tryz.zeroCells141 141)).setCells (w.heap.size+1) 0 C.toList)):=
  aD _ 0 _ (w.heap.size+1) ((gL _ _).alloc (by simp) _) (bN _)
 have HB0:Hid (Below w.heap.size w (((w.alloc (.cells A 72)).alloc (.cells Tryz.zeroCells141 141)).setCells (w.heap.size+1) 0 C.toList)):=
  ((gL w.heap.size w).alloc (bN _) _).trans (HBS.out.mono (by omega))
 have HRC:Hid ((((w.alloc (.cells A 72)).alloc (.cells Tryz.zeroCells141 141)).setCells (w.heap.size+1) 0 C.toList).rangeAt (w.heap.size+1) 0 C.toList):=
  World.rangeAt_setCells_same _ _ _ _ (by rw[bT,hCs];exact HT.out)
 have HTC:Hid ((((w.alloc (.cells A 72)).alloc (.cells Tryz.zeroCells141 141)).setCells (w.heap.size+1) 0 C.toList).there (w.heap.size+1) 0 264):=World.there_setCells HT.out _ _ _;have HCA:Hid ((((w.alloc (.cells A 72)).alloc (.cells Tryz.zeroCells141 141)).setCells (w.heap.size+1) 0 C.toList).cell? ⟨w.heap.size,257,none⟩=some (.slice (some ⟨vg,0,none⟩) (iM s) vcap)):=by
  unfold Hid;rw[HBS.out.cell (p:=⟨w.heap.size,257,none⟩) (eO _)];have:=HRA.out 257 (.slice (some ⟨vg,0,none⟩) (iM s) vcap) (by rw[hA];exact rK _ _ _ (by unfold bL;rw[jJ];rfl));rw[cO]at this;exact this
 have HZ3:Hid (w.heap.size+1<(((w.alloc (.cells A 72)).alloc (.cells Tryz.zeroCells141 141)).setCells (w.heap.size+1) 0 C.toList).heap.size):=by
  unfold Hid;have:=(aD C.toList 0 ((w.alloc (.cells A 72)).alloc (.cells Tryz.zeroCells141 141)) (w.heap.size+1) (gL 0 _) (eS _)).size;simp at this;omega
 have HBU:=aA hbu;have HSA:=aA hAs;have HSC:=aA hCs;have HOC:=aA hCo;have HCS:Hid ((∀k,k<258->C[k]? =A[k]?)/\C[258]? =some (.string inp)/\C[259]? =some (.int .i64 (c0:Int))/\C[260]? =some (.int .i64 0)/\C[261]? =some (.int .i64 0)/\C[262]? =some (.slice none 0 0)/\C[263]? =some (.slice none 0 0)):=⟨hC0,hC1,hC2,hC3,hC4,hC5,hC6⟩
 have HAL:Hid (A.toList.toArray=A):=by unfold Hid;simp
 have HM:=aA hm;have HI:=aA hi;have HA:=aA hA;clear hbu hAs hCs hCo hC0 hC1 hC2 hC3 hC4 hC5 hC6 hlen hone hAo hm hi hA;go_enter Tryz.func25,Tryz.ntmps25;go_upto_region 2 with(first
  | (refine wpList_boxTo rfl 72 (.tmp 0) rfl _ rfl w.heap.size rfl A rfl ?_)
  | (refine wpList_load_mid rfl 72 (.tmp 3) rfl w.heap.size 0 rfl A.toList _ HRA.out Tryz.underlying72 rfl ?_ ?_;(rw[bT,HSA.out];exact Tryz.imgSize);rw[HAL.out])
  | (refine wpList_buildTo rfl 141 _ rfl _ rfl C ?_ ?_;(simp only[List.map_toArray,List.map_cons,List.map_nil];exact HBU.out))
  | (refine wpList_store_mid rfl 141 (.tmp 9) (.tmp 17) rfl (w.heap.size+1) 0 C rfl rfl ?_ ?_ HOC.out ?_;(rw[HSC.out];exact HT.out);(rw[HSC.out];exact Tryz.cutSize)))
 have HFZ:Hid (∀i,(((w.alloc (.cells A 72)).alloc (.cells Tryz.zeroCells141 141)).setCells (w.heap.size+1) 0 C.toList).frozen? ⟨w.heap.size+1,i,none⟩=false):=fun i=>by
  rw[oE];have e:w.heap.size+1=(w.alloc (.cells A 72)).heap.size:=by simp
  rw[e,World.frozen?_alloc_new]
 generalize ((w.alloc (.cells A 72)).alloc (.cells Tryz.zeroCells141 141)).setCells (w.heap.size+1) 0 C.toList=W0 at*;have hcC:∀k v,C[k]? =some v->W0.cell? ⟨w.heap.size+1,k,none⟩=some v:=fun k v hk=>by
  have:=HRC.out k v (by simpa using hk);rw[cO]at this;exact this
 have HC0:Hid (CW0 W0 (w.heap.size+1) s inp bb vg vcap yb zb (.slice none 0 0) (fun _=>0) c0 0):=by
  obtain⟨h0,h1,h2,h3,h4,h5,h6⟩:=HCS.out;refine⟨(HM.out.below HB0.out (bN _)).mono (bS _),fun j u hu=> ?_,hcC _ _ h1,hcC _ _ h2,hcC _ _ h3,hcC _ _ h4,hcC _ _ h5,hcC _ _ h6,HFZ.out,eN _ _ _ _,fun j k hj=>by omega,HZ3.out,fun j hj=>by omega,fun i j hi=>by omega⟩;have hj:j<258:=by
   have:=(cF.1 hu).1;rw[lX _ _ _ (by unfold bL;rw[jJ];rfl)]at this;exact this
  rw[cO];refine hcC j u ((h0 j hj).trans ?_);rw[←HA.out]at hu;simpa using hu
 have hM:=(nJ HI.out).2.2;obtain⟨M,EM⟩:∃M,iM s=M:=⟨_,rfl⟩
 have c257:=HCA.out;rw[EM]at c257 hM hc0;have hMb:1<=M/\M<=4:=⟨hM.1,hM.2.1⟩
 replace EM:=aA EM;clear hM hcC HRC HTC HFZ HCS HBU HOC HSC HSA HAL HA HT HBS HRA HCA HZ3;go_wp2_with fail;clear c257
 go_loopw [21] (fun x wr=>∃(m:Nat) (vh:Value) (hbk:Nat->Nat),x= .int .i64 (m:Int)/\m<=M/\CW0 wr (w.heap.size+1) s inp bb vg vcap yb zb vh hbk c0 m/\Below w.heap.size w wr) (fun x _=>M - (intOf x).toNat)
 case atStart=>exact⟨0,_,_,rfl,eS _,HC0.out,HB0.out⟩
 case round=>
  obtain⟨m,vh,hbk,rfl,hmM,hcw,hb⟩:=hrel;have HC1:=aA hcw;have HB1:=aA hb;clear hcw hb HC0 HB0;by_cases hlt:m<M
  ·have hmi:m<iM s:=by rw[EM.out];exact hlt
   have m1:=HC1.out.mem.co m hmi;have hns:=X7 HI.out hmi;obtain⟨N,EN⟩:∃N,nSt s m=N:=⟨_,rfl⟩
   rw[EN]at m1 hns;obtain⟨NL,ENL⟩:∃NL,N*inp.size=NL:=⟨_,rfl⟩
   have hNL:NL<=30000:=by rw[←ENL];have:=Nat.mul_le_mul hns.1 hin;omega
   have hNI:(N:Int)*(inp.size:Int)=(NL:Int):=by rw[←ENL];simp
   have hwr:IntKind.i64.wrap ((N:Int)*(inp.size:Int))=(NL:Int):=by rw[hNI];exact IntWalk.i64_in _ (by omega)
   have hwr2:IntKind.i64.wrap (NL:Int)=(NL:Int):=IntWalk.i64_in _ (by omega);have HNL2:Hid (nSt s m*inp.size=NL):=by unfold Hid;rw[EN,ENL]
   replace EN:=aA EN;replace ENL:=aA ENL;obtain⟨va,vcap',hv⟩:=aK HC1.out.rh;subst hv;have k6:=HC1.out.k6;have f6:=HC1.out.fz 263;have hcb:=HC1.out.hb;have hol:Vp (.int .i64 (NL:Int)):=⟨NL,rfl,hNL⟩
   have hll:Mr (.int .i64 (NL:Int))=NL:=by simp[Mr]
   have hmI:(0:Int)<=(m:Int)/\(m:Int)<(M:Int):=by omega
   clear hmi;have hd:decide ((m:Int)<(M:Int))=true:=by simp;omega
   go_wp2_with fail;have x1:(wr.alloc (.cells (madeCells #[.bool false] NL) 4)).cell? ⟨w.heap.size+1,263,none⟩=some (.slice va m vcap'):=(aO (w:=wr) (a:=⟨w.heap.size+1,263,none⟩) (aL _ _ _ hcb)).trans k6;have x2:((wr.alloc (.cells (madeCells #[.bool false] NL) 4)).alloc (.cells #[.slice (some ⟨wr.heap.size,0,none⟩) NL NL] 80)).cell? ⟨w.heap.size+1,263,none⟩=some (.slice va m vcap'):=(aO (w:=wr) (a:=⟨w.heap.size+1,263,none⟩) ((aL _ _ _ (by simp;omega)).trans (aL _ _ _ hcb))).trans k6;have hvl:∀q,(eR va m vcap').ownBlock=some q->w.heap.size+2<=q/\q<wr.heap.size:=fun q hq=>HC1.out.rh.lt q hq
   go_region_law ((refine lT (wr.drew.alloc (.cells (madeCells #[.bool false] NL) 4)) rfl (.tmp 26) (.tmp 33) 129 rfl (w.heap.size+1+1) 80 (.slice none 0 0) 1 24 Tryz.underlying129 Tryz.infoBools rfl (by decide) (by decide) _ m (Ej s inp hbk m) [.slice (some ⟨wr.heap.size,0,none⟩) NL NL] _ (by simp[Act.eval]) (HC1.out.rh.drew.alloc _) (wr.heap.size+1) (by simp) (by simp[Act.eval]) rfl (by simp[cP]) (by omega) (by simp;omega) ?_;intro g4 cap4 w4 hown4 hgrow4 hat4 hlt4;have e4:w4.heap[w.heap.size+1]? =wr.heap[w.heap.size+1]? :=((hgrow4.block (w.heap.size+1) (by simp;omega) (fun e=>by have:=hvl _ e.symm;omega)).trans (aL _ _ _ (by simp;omega))).trans (aL _ _ _ hcb);have m3:=(aO (w:=wr) (a:=⟨w.heap.size+1,263,none⟩) e4).trans k6;have n3:=(bO (w:=wr) (a:=⟨w.heap.size+1,263,none⟩) e4).trans f6;have HMO:=aA (HC1.out.drew.more HNL2.out hown4 hgrow4 (hat4.imp id (fun h=>h.trans (by simp))));have HBG:Hid (Below w.heap.size w w4):=(((N3 HB1.out).alloc (by have:=HB1.out.size;show w.heap.size<=wr.heap.size;omega) _).alloc (by have:=HB1.out.size;simp;omega) _).grown hgrow4 (by have:=HB1.out.size;simp;omega) (fun q hq=>by have:=hvl q hq;omega)))
   all_goals
    go_wp2;go_roundw
    case rel=>exact⟨m+1,_,_,by go_num,hlt,HMO.out,HBG.out.setCell (p:=⟨w.heap.size+1,263,none⟩) (bS _) _⟩
    case measure=>simp[intOf];omega
  ·have e:m=M:=by omega
   subst e;have hd:decide ((m:Int)<(m:Int))=false:=by simp
   obtain⟨hg,hcap,hcw⟩:=CW0.done (by rw[EM.out];exact HC1.out) (by rw[EM.out];exact hMb.1);have HCW:=aA hcw;clear hcw HC1;go_wp2_with fail
   go_loopg [12] (inp.size+1) (fun gk _ wr=>∃(p c n:Nat) (H T:List (Int×Int×Int)) (HT:Nat->Nat->Bool) (vt:Value),p<=inp.size/\inp.size - p<gk/\c<m/\n<=p*300/\T.length<=p/\rC s inp c0=vV s inp gk p c H n T/\
    CW wr (w.heap.size+1) wr.heap.size s inp bb vg vcap yb zb vt hg hcap hbk HT c p n T/\vZ s inp H HT/\sH s inp H/\Below w.heap.size w wr)
   case atStart=>exact⟨0,c0,0,[],[],fun _ _=>false,.slice none 0 0,eS _,by omega,by omega,by omega,by simp,rfl,HCW.out,Pb _ _,fun _ _ _ h=>absurd h (List.not_mem_nil),HB1.out⟩
   case round=>
    obtain⟨p,c,n,H,T,HT,vt,hp,hgk,hc,hn,hT,hrun,hcw,hho,hdead,hb⟩:=hrel;have HRN:=aA hrun;have HC2:=aA hcw;have HH2:=aA hho;have HD2:=aA hdead;have HB2:=aA hb;clear hrun hcw hho hdead hb HCW HB1;have k3:=HC2.out.k3;by_cases hlt:p<inp.size
    ·have hci:c<iM s:=by rw[EM.out];exact hc
     have hlk:=Kp s inp (w.heap.size+1) bb vg vcap yb zb vt hg hcap hbk HT c p n H T wr HI.out hin hp hci (by omega) HH2.out HC2.out;have hlf:=Hz (c:=c) HD2.out hp;have hla:=Ng (c:=c) HD2.out hp;have hll:= @V1 s inp c p H;have hcs:=yG HI.out hci hp (inp:=inp);obtain⟨f,rfl⟩:∃f,gk=f+1:=⟨gk - 1,by omega⟩
     have hrn0:= @zN s inp f p c n H T hlt;have hrn1:=fun r q=> @zP s inp f p c n r q H T hlt
     unfold Iz at hlk;generalize eW s inp c H p=SF at*;obtain⟨SL,kk⟩:=SF;generalize iF s inp c H (inp.size - p) 0 p none=best at*;simp only at*;have hd2:decide ((p:Int)<(inp.size:Int))=true:=by simp;omega
     have HLA:=aA hla
     cases best with
     | none=>
      simp only at hlf;have HE:Hid (rC s inp c0=(T++ [(-1,(p:Int),(p:Int))],n+kk,c)):=HRN.out.trans (hrn0 hlf);clear hlf hla hcs hrn0 hrn1;go_wp2_with fail;refine hlk.mono ?_;rintro e w1 ⟨rfl,hb1,HT1,hcw1,hho1⟩;have HC3:=aA hcw1;have HB3:=aA (HB2.out.trans (hb1.mono (bS _)));clear hcw1 hho1 hb1 hlk k3 HC2 HB2;have k3:=HC3.out.k3;go_wp2_with fail;refine(yZ s inp (w.heap.size+1) bb vg vcap yb zb vt hg hcap hbk HT1 c p (n+kk) T (-1) (p:Int) _ (by omega) HC3.out).mono ?_;rintro e w2 ⟨rfl,hb2,vt2,hcw2⟩;have HC4:=aA hcw2;have HB4:=aA (HB3.out.trans (hb2.mono (bS _)));clear hcw2 hb2 HC3 HB3 k3;have k2:=HC4.out.k2;have k4:=HC4.out.k4;have k5:=HC4.out.k5;go_wp2;go_quiet (fail);go_wp2;go_ret3;refine⟨vt2,by rw[HE.out];rfl,by rw[HE.out];exact HC4.out.rt,⟨HB4.out.os,HB4.out.tape,HB4.out.output,HB4.out.size,HB4.out.block⟩⟩
     | some x=>
      obtain⟨r,q⟩:=x;simp only at hlf;have hx:r<iR s/\p<q/\q<=inp.size:=by
       rcases hcs with h1 | ⟨r',q',h1,h2,h3,h4⟩
       ·rw[hlf]at h1;injection h1 with h1 _;omega
       ·rw[hlf]at h1;injection h1 with h5 h6;have h7:r=r':=by omega
        rw[h7,h6];exact⟨h2,h3,h4⟩
      have HE:=aA (HRN.out.trans (hrn1 r q hlf));have hth:=uI HI.out hx.1;rw[EM.out]at hth;clear hlf hla hcs hrn0 hrn1;obtain⟨tk,htk⟩:∃tk:Nat,tk=Ea (some (r,q)):=⟨_,rfl⟩
      obtain⟨tq,htq⟩:∃tq:Nat,tq=toN p (some (r,q)):=⟨_,rfl⟩
      rw[←htk,←htq]at hlk;have htk1:(tk:Int) - 1=(r:Int):=by rw[htk];simp[Ea]
      have htk0:((tk:Int)==0)=false:=by rw[beq_eq_false_iff_ne,htk];simp only[Ea];omega
      have HTQ:Hid (tq=q):=htq;have hrb:r<=8:=by have:=(nJ HI.out).1;omega
      clear htk htq;have htkb:tk<=9:=by omega
      go_wp2_with fail;refine hlk.mono ?_;rintro e w1 ⟨rfl,hb1,HT1,hcw1,hho1⟩;have HC3:=aA hcw1;have HH3:=aA hho1;have HB3:=aA (HB2.out.trans (hb1.mono (bS _)));clear hcw1 hho1 hb1 hlk k3 HC2 HB2;go_wp2_with fail;refine(Mq s inp (w.heap.size+1) bb vg vcap yb zb vt hg hcap hbk HT1 c p (n+kk) T r tq _ HI.out hx.1 (by omega) HC3.out).mono ?_;rintro e w2 ⟨rfl,hb2,vt2,hcw2⟩;have HC4:=aA hcw2;have HB4:=aA (HB3.out.trans (hb2.mono (bS _)));clear hcw2 hb2 HC3 HB3;rw[HTQ.out]at HC4;go_wp2;go_roundg f
      case measure=>omega
      case rel=>
       refine⟨q,_,_,_,_,HT1,vt2,hx.2.2,by omega, ?_, ?_, ?_,HE.out,HC4.out,HH3.out,HLA.out,HB4.out⟩
       ·split<;> omega
       ·omega
       ·split
        ·omega
        ·simp;omega
    ·have HE:Hid (rC s inp c0=(T,n,c)):=by
      obtain⟨f,rfl⟩:∃f,gk=f+1:=⟨gk - 1,by omega⟩
      exact HRN.out.trans (I1 hlt)
     have hd2:decide ((p:Int)<(inp.size:Int))=false:=by simp;omega
     have k2:=HC2.out.k2;have k4:=HC2.out.k4;have k5:=HC2.out.k5;go_wp2;go_quiet (fail);go_wp2;go_ret3;refine⟨vt,by rw[HE.out];rfl,by rw[HE.out];exact HC2.out.rt,⟨HB2.out.os,HB2.out.tape,HB2.out.output,HB2.out.size,HB2.out.block⟩⟩
end Go.Proofs.YtgjgjgihceijnaaGreat
