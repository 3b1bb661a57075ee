import Derived.Test.YtgjgjgihceijnaaGreatG12
open Go.World renaming cell?_alloc_at->aL,size_setCell->aR,frozen?_setCell->bC,cell?_setCell_other->bD,cell?_alloc_past->bM,cell?_of_block->bN,frozen?_alloc_at->bT
open Nat renaming le_refl->aO,zero_le->bK
open Go.Value renaming ownBlock->aT
open List renaming getElem?_eq_some_iff->bO,drop_eq_getElem_cons->bS
open Go.RowKit.Below renaming refl->cF
set_option maxRecDepth 100000
set_option maxHeartbeats 8000000
namespace Go.Stn
def st0:PSt:= {at_:=0,rules:= [],nodes:= [],places:= []}
def bB (t:ByteArray):PSt:=(gF t st0).2
def dD (t:ByteArray):Int:=
 if 120<t.size then 1 else if mD t (gF t st0)=false then 2 else if 10<(gF t st0).2.places.length then 3 else 0
end Go.Stn
namespace Go.Proofs.YtgjgjgihceijnaaGreat
open Go.RowKit Go.Stn
structure cZ (w:World)(b:Nat)(x y z:Value):Prop where
 c0:w.cell? ⟨b,0,none⟩=some x
 c1:w.cell? ⟨b,1,none⟩=some y
 c2:w.cell? ⟨b,2,none⟩=some z
 z:∀i,w.frozen? ⟨b,i,none⟩=false
theorem cZ.block {w w':World}{b:Nat}{x y z:Value}(h:cZ w b x y z)(he:w'.heap[b]? =w.heap[b]?):cZ w' b x y z:=
 ⟨(bN (w:=w) (a:=⟨b,0,none⟩) he).trans h.c0,(bN (w:=w) (a:=⟨b,1,none⟩) he).trans h.c1,(bN (w:=w) (a:=⟨b,2,none⟩) he).trans h.c2,fun i=>(World.frozen?_of_block (w:=w) (a:=⟨b,i,none⟩) he).trans (h.z i)⟩
theorem cZ.new (w:World)(b:Nat)(ty:TypeId)(x y z:Value)(hb:b=w.heap.size):cZ (w.alloc (.cells #[x,y,z] ty)) b x y z:=
 ⟨(aL _ _ b 0 hb).trans rfl,(aL _ _ b 1 hb).trans rfl,(aL _ _ b 2 hb).trans rfl,fun i=>bT _ _ b i hb⟩
theorem cZ.alloc {w:World}{b:Nat}{x y z:Value}(h:cZ w b x y z)(hb:b<w.heap.size)(o:Obj):cZ (w.alloc o) b x y z:=
 ⟨(bM o b 0 hb).trans h.c0,(bM o b 1 hb).trans h.c1,(bM o b 2 hb).trans h.c2,fun i=>(World.frozen?_alloc_past o b i hb).trans (h.z i)⟩
theorem cZ.range {w:World}{b:Nat}{x y z:Value}(h:cZ w b x y z):w.rangeAt b 0 [x,y,z]:=by
 intro j v hv
 match j,hv with
 | 0,hv=>cases hv;exact h.c0
 | 1,hv=>cases hv;exact h.c1
 | 2,hv=>cases hv;exact h.c2
theorem cZ.there {w:World}{b:Nat}{x y z:Value}(h:cZ w b x y z):w.there b 0 3:=by
 intro j hj;rw[Nat.zero_add];refine⟨?_,h.z j⟩
 match j,hj with
 | 0,_=>rw[h.c0];rfl
 | 1,_=>rw[h.c1];rfl
 | 2,_=>rw[h.c2];rfl
theorem cZ.stored {w:World}{b:Nat}{x y z:Value}(h:cZ w b x y z)(x' y' z':Value):cZ (((w.setCell ⟨b,0,none⟩ x').setCell ⟨b,1,none⟩ y').setCell ⟨b,2,none⟩ z') b x' y' z':=by
 have hr:(w.setCells b 0 [x',y',z']).rangeAt b 0 [x',y',z']:=World.rangeAt_setCells_same w b 0 [x',y',z'] h.there;exact⟨hr 0 _ rfl,hr 1 _ rfl,hr 2 _ rfl,fun i=>by rw[bC,bC,bC];exact h.z i⟩
theorem qG {a w:World}{B b:Nat}(h:Below B a w)(hb:B<=b)(x y z:Value):Below B a (((w.setCell ⟨b,0,none⟩ x).setCell ⟨b,1,none⟩ y).setCell ⟨b,2,none⟩ z):=
 ((h.setCell (p:=⟨b,0,none⟩) hb x).setCell (p:=⟨b,1,none⟩) hb y).setCell (p:=⟨b,2,none⟩) hb z
theorem yS {w:World}{base b:Nat}{e:TypeId}{size:Nat}{v:Value}{m:Nat}{xs:List Value}(hr:w.ownsRow base e size v m xs)(hb:b<base)(x y z:Value):
  (((w.setCell ⟨b,0,none⟩ x).setCell ⟨b,1,none⟩ y).setCell ⟨b,2,none⟩ z).ownsRow base e size v m xs:=
 ownsRow_setCell_below (ownsRow_setCell_below (ownsRow_setCell_below hr hb _) hb _) hb _
structure Wm (w:World)(base:Nat)(st:PSt)(vr vn vp:Value):Prop where
 rr:w.ownsRow base 119 6 vr st.rules.length (tA st.rules)
 rn:w.ownsRow base 162 3 vn st.nodes.length (qD st.nodes)
 rp:w.ownsRow base 158 256 vp st.places.length (zS st.places)
 lr:∀k,vr.ownBlock=some k->k<w.heap.size
 ln:∀k,vn.ownBlock=some k->k<w.heap.size
 lp:∀k,vp.ownBlock=some k->k<w.heap.size
theorem Tryz.fileSize:(Tryz.prog.info? 44).map (·.size)=some 3:=by kernel_rfl
theorem Sp (t:ByteArray)(w:World)(x y z:Value)(ty1 ty2:TypeId):Rd ((w.alloc (.cells #[x,y,z] ty1)).alloc (.cells #[.string t,.int .i64 0,.slice none 0 0,.slice none 0 0,.slice none 0 0] ty2)) (w.heap.size+1) (w.heap.size+2) ((w.alloc (.cells #[x,y,z] ty1)).alloc (.cells #[.string t,.int .i64 0,.slice none 0 0,.slice none 0 0,.slice none 0 0] ty2)).heap.size t st0 (.slice none 0 0) (.slice none 0 0) (.slice none 0 0):=by
 have hb:w.heap.size+1=(w.alloc (.cells #[x,y,z] ty1)).heap.size:=by simp
 have ap:kR (.slice none 0 0) (.slice none 0 0):=fun k h _=>by simp[aT]at h
 have no:∀k,(Value.slice none 0 0).ownBlock=some k->k<((w.alloc (.cells #[x,y,z] ty1)).alloc (.cells #[.string t,.int .i64 0,.slice none 0 0,.slice none 0 0,.slice none 0 0] ty2)).heap.size:=fun k h=>by simp[aT]at h
 refine⟨(aL _ _ _ 0 hb).trans rfl,(aL _ _ _ 1 hb).trans rfl,(aL _ _ _ 2 hb).trans rfl,(aL _ _ _ 3 hb).trans rfl,(aL _ _ _ 4 hb).trans rfl,fun i=>bT _ _ _ i hb,⟨rfl,.inl ⟨rfl,rfl⟩⟩,⟨rfl,.inl ⟨rfl,rfl⟩⟩,⟨rfl,.inl ⟨rfl,rfl⟩⟩,by omega, ?_,aO _,no,no,no,ap,ap,ap⟩;simp
theorem Hf (t:ByteArray)(w:World):
  Calls Tryz.prog 16 #[.string t] w fun e w'=>Below w.heap.size w w'/\∃vr vn vp,e= .returned (.tuple #[.agg #[vr,vn,vp],.int .i64 (dD t)])/\
   (dD t=0->Wm w' (w.heap.size+2) (bB t) vr vn vp)/\(dD t≠0->vr= .slice none 0 0/\vn= .slice none 0 0/\vp= .slice none 0 0):=by
 by_cases h1:t.size<=120
 ·have HR0:=aE (Sp t w (.slice none 0 0) (.slice none 0 0) (.slice none 0 0) 44 102);have HT0:=aE ((cZ.new w w.heap.size 44 (.slice none 0 0) (.slice none 0 0) (.slice none 0 0) rfl).alloc (by simp) (.cells #[.string t,.int .i64 0,.slice none 0 0,.slice none 0 0,.slice none 0 0] 102));have HB0:=aE (((cF w.heap.size w).alloc (aO _) (.cells #[.slice none 0 0,.slice none 0 0,.slice none 0 0] 44)).alloc (by simp) (.cells #[.string t,.int .i64 0,.slice none 0 0,.slice none 0 0,.slice none 0 0] 102));have hsz0:((w.alloc (.cells #[.slice none 0 0,.slice none 0 0,.slice none 0 0] 44)).alloc (.cells #[.string t,.int .i64 0,.slice none 0 0,.slice none 0 0,.slice none 0 0] 102)).heap.size=w.heap.size+2:=by simp
  have HC:Hid (dD t=if mD t (gF t st0)=false then 2 else if 10<(gF t st0).2.places.length then 3 else 0):=by
   unfold Hid dD;rw[if_neg (by omega)]
  go_enter Tryz.func16,Tryz.ntmps16;go_wp2_with fail;generalize (w.alloc (.cells #[.slice none 0 0,.slice none 0 0,.slice none 0 0] 44)).alloc (.cells #[.string t,.int .i64 0,.slice none 0 0,.slice none 0 0,.slice none 0 0] 102)=W0 at*;refine(La t st0 (w.heap.size+1) (w.heap.size+2) _ _ _ W0 h1 (bK _) ⟨bK _,bK _⟩ (bK _) HR0.out).mono ?_;rintro e w1 ⟨rfl,vr,vn,vp,hr,hf⟩;have hnm:¬Tu (w.heap.size+1) (.slice none 0 0) (.slice none 0 0) (.slice none 0 0) w.heap.size:=by
   rintro(e | e | e | e)
   ·omega
   ·simp[aT]at e
   ·simp[aT]at e
   ·simp[aT]at e
  have HT1:=aE (HT0.out.block (hf.block w.heap.size (by omega) hnm));have HB1:Hid (Below w.heap.size w w1):=by
   refine⟨hf.os.trans HB0.out.os,hf.tape.trans HB0.out.tape,hf.output.trans HB0.out.output,Nat.le_trans HB0.out.size hf.size,fun k hk=>(hf.block k (by omega) ?_).trans (HB0.out.block k hk)⟩;rintro(e | e | e | e)
   ·omega
   ·simp[aT]at e
   ·simp[aT]at e
   ·simp[aT]at e
  have HP:Hid (bB t=(gF t st0).2):=rfl;clear HR0 HT0 HB0 hsz0 hf hnm;generalize mD t (gF t st0)=ok at*;generalize gF t st0=M at*;obtain⟨ok',s⟩:=M;simp only at HC hr HP;have c0:=HT1.out.c0;have c1:=HT1.out.c1;have c2:=HT1.out.c2;have z0:=HT1.out.z 0;have z1:=HT1.out.z 1;have z2:=HT1.out.z 2
  cases ok with
  | false=>
   have HE:Hid (dD t=2):=HC.out;go_wp2;refine cJ Tryz.results16 w.heap.size 0 [.slice none 0 0,.slice none 0 0,.slice none 0 0] _ (.int .i64 2) rfl rfl (HT1.out.stored _ _ _).range Tryz.underlying44 rfl Tryz.fileSize rfl ?_;rw[HE.out];exact⟨qG HB1.out (aO _) _ _ _,_,_,_,rfl,fun h=>by simp at h,fun _=>⟨rfl,rfl,rfl⟩⟩
  | true=>
   have HR:=aE hr;clear hr;have d2:=HR.out.c2;have d3:=HR.out.c3;have d4:=HR.out.c4;obtain⟨ar,cr,er⟩:=aK HR.out.rr;obtain⟨an,cn,en⟩:=aK HR.out.rn;obtain⟨ap,cp,ep⟩:=aK HR.out.rp;subst er en ep;by_cases hp:10<s.places.length
   ·have HE:Hid (dD t=3):=HC.out.trans (if_pos hp);go_wp2;refine cJ Tryz.results16 w.heap.size 0 [.slice none 0 0,.slice none 0 0,.slice none 0 0] _ (.int .i64 3) rfl rfl (HT1.out.stored _ _ _).range Tryz.underlying44 rfl Tryz.fileSize rfl ?_;rw[HE.out];exact⟨qG HB1.out (aO _) _ _ _,_,_,_,rfl,fun h=>by simp at h,fun _=>⟨rfl,rfl,rfl⟩⟩
   ·have HE:Hid (dD t=0):=HC.out.trans (if_neg hp);go_wp2;refine cJ Tryz.results16 w.heap.size 0 [.slice ar s.rules.length cr,.slice an s.nodes.length cn,.slice ap s.places.length cp] _ (.int .i64 0) rfl rfl (HT1.out.stored _ _ _).range Tryz.underlying44 rfl Tryz.fileSize rfl ?_;rw[HE.out];refine⟨qG HB1.out (aO _) _ _ _,_,_,_,rfl,fun _=> ?_,fun h=>absurd rfl h⟩;rw[HP.out];refine⟨yS HR.out.rr (by omega) _ _ _,yS HR.out.rn (by omega) _ _ _,yS HR.out.rp (by omega) _ _ _, ?_, ?_, ?_⟩
    ·rw[aR,aR,aR];exact HR.out.lr
    ·rw[aR,aR,aR];exact HR.out.ln
    ·rw[aR,aR,aR];exact HR.out.lp
 ·have HE:Hid (dD t=1):=by unfold Hid dD;rw[if_pos (by omega)]
  have HT0:=aE (cZ.new w w.heap.size 44 (.slice none 0 0) (.slice none 0 0) (.slice none 0 0) rfl);have HB0:=aE ((cF w.heap.size w).alloc (aO _) (.cells #[.slice none 0 0,.slice none 0 0,.slice none 0 0] 44));go_enter Tryz.func16,Tryz.ntmps16;go_wp2;refine cJ Tryz.results16 w.heap.size 0 [.slice none 0 0,.slice none 0 0,.slice none 0 0] _ (.int .i64 1) rfl rfl HT0.out.range Tryz.underlying44 rfl Tryz.fileSize rfl ?_;rw[HE.out];exact⟨HB0.out,_,_,_,rfl,fun h=>by simp at h,fun _=>⟨rfl,rfl,rfl⟩⟩
end Go.Proofs.YtgjgjgihceijnaaGreat
namespace Go.Stn
def lZ (k:Nat):Int:=((2 ^ k:Nat):Int)
def orI (a b:Int):Int:=bits .or .i64 a b
def gZ (a b:Int):Int:=bits .and .i64 a b
def lW (p:Int×Int×Bool):Value:= .agg #[.int .i64 p.1,.int .i64 p.2.1,.bool p.2.2]
def sC (l r:Int×Int×Bool):Int×Int×Bool:=
 (if l.2.2=true then orI l.1 r.1 else l.1,if r.2.2=true then orI r.2.1 l.2.1 else r.2.1,l.2.2 && r.2.2)
end Go.Stn
namespace Go.Proofs.YtgjgjgihceijnaaGreat
open Go.RowKit Go.Stn
theorem Qe (k:Nat)(hk:k<=10):wrap64 (2 ^ k)=((2 ^ k:Nat):Int):=by
 have:∀j:Fin 11,wrap64 (2 ^ j.val)=((2 ^ j.val:Nat):Int):=by decide+kernel
 exact this ⟨k,by omega⟩
theorem qM (k:Nat)(hk:k<=10)(w:World):
  Calls Tryz.prog 67 #[.int .i64 (k:Int)] w fun e w'=>w'=w/\e= .returned (.int .i64 (lZ k)):=by
 go_enter Tryz.func67,Tryz.ntmps67;go_wp2;go_ret;exact⟨rfl,by rw[Qe k hk];rfl⟩
theorem Tryz.partSize:(Tryz.prog.info? 164).map (·.size)=some 3:=by kernel_rfl
theorem cZ.new3 (w:World)(o1 o2 o4:Obj)(ty:TypeId)(x y z:Value):cZ ((((w.alloc o1).alloc o2).alloc (.cells #[x,y,z] ty)).alloc o4) (w.heap.size+1+1) x y z:=
 (cZ.new _ _ ty x y z (by simp)).alloc (by simp) o4
theorem mX (w:World)(o1 o2 o3 o4:Obj):Below w.heap.size w ((((w.alloc o1).alloc o2).alloc o3).alloc o4):=
 ((((cF _ _).alloc (aO _) o1).alloc (by simp) o2).alloc (by simp;omega) o3).alloc (by simp;omega) o4
theorem Cj (a b c d:Int)(x y:Bool)(w:World):
  Calls Tryz.prog 99 #[lW (a,b,x),lW (c,d,y)] w fun e w'=>Below w.heap.size w w'/\e= .returned (lW (sC (a,b,x) (c,d,y))):=by
 unfold lW
 cases x<;> cases y
 ·go_enter Tryz.func99,Tryz.ntmps99;go_wp2_with fail;exact eP Tryz.results99 (w.heap.size+1+1) 0 _ _ rfl (cZ.new3 _ _ _ _ _ _ _ _).range Tryz.underlying164 rfl Tryz.partSize rfl ⟨mX _ _ _ _ _,rfl⟩
 ·go_enter Tryz.func99,Tryz.ntmps99;go_wp2_with fail;exact eP Tryz.results99 (w.heap.size+1+1) 0 _ _ rfl (cZ.new3 _ _ _ _ _ _ _ _).range Tryz.underlying164 rfl Tryz.partSize rfl ⟨mX _ _ _ _ _,rfl⟩
 ·go_enter Tryz.func99,Tryz.ntmps99;go_wp2_with fail;exact eP Tryz.results99 (w.heap.size+1+1) 0 _ _ rfl (cZ.new3 _ _ _ _ _ _ _ _).range Tryz.underlying164 rfl Tryz.partSize rfl ⟨mX _ _ _ _ _,rfl⟩
 ·go_enter Tryz.func99,Tryz.ntmps99;go_wp2_with fail;exact eP Tryz.results99 (w.heap.size+1+1) 0 _ _ rfl (cZ.new3 _ _ _ _ _ _ _ _).range Tryz.underlying164 rfl Tryz.partSize rfl ⟨mX _ _ _ _ _,rfl⟩
end Go.Proofs.YtgjgjgihceijnaaGreat
namespace Go.Stn
def cY:List Int->Int->Nat
 | [],_=>0
 | a::r,x=>if a=x then 0 else cY r x+1
theorem Nt {l:List Int}{x:Int}{k:Nat}(h:l[k]? =some x):cY (l.drop k) x=0:=by
 have e:l.drop k=x::l.drop (k+1):=by
  obtain⟨hk,he⟩:=bO.1 h;rw[bS hk,he]
 rw[e,cY,if_pos rfl]
theorem Rp {l:List Int}{a x:Int}{k:Nat}(h:l[k]? =some a)(hne:a≠x):cY (l.drop k) x=cY (l.drop (k+1)) x+1:=by
 have e:l.drop k=a::l.drop (k+1):=by
  obtain⟨hk,he⟩:=bO.1 h;rw[bS hk,he]
 rw[e,cY,if_neg hne]
structure F7 (w:World)(v:Value)(l:List Int):Prop where
 sh:(v= .slice none 0 0/\l= [])\/∃g cap,v= .slice (some ⟨g,0,none⟩) l.length cap/\l.length<=cap/\cap<=maxLen/\∀k x,l[k]? =some x->w.cell? ⟨g,k,none⟩=some (.int .i64 x)
end Go.Stn
namespace Go.Proofs.YtgjgjgihceijnaaGreat
open Go.RowKit Go.Stn
theorem Mc (l:List Int)(v:Value)(x:Int)(w:World)(hl:l.length<=1000000)(hr:F7 w v l):
  Calls Tryz.prog 35 #[v,.int .i64 x] w fun e w'=>w'=w/\e= .returned (.int .i64 (cY l x:Int)):=by
 rcases hr.sh with⟨rfl,rfl⟩ | ⟨g,cap,rfl,h1,h2,hcells⟩
 ·go_enter Tryz.func35,Tryz.ntmps35;go_wp2_with fail
  go_loop [9] (fun i=>i= .int .i64 0) (fun _=>0)
  case atStart=>rfl
  case round=>
   subst hrel;go_wp2;go_ret;exact⟨rfl,rfl⟩
 ·have HC:=aE hcells;clear hcells hr;go_enter Tryz.func35,Tryz.ntmps35;go_wp2_with fail
  go_loop [9] (fun i=>∃k:Nat,k<=l.length/\i= .int .i64 (k:Int)/\k+cY (l.drop k) x=cY l x) (fun i=>l.length - (intOf i).toNat)
  case atStart=>exact⟨0,bK _,rfl,by simp⟩
  case round=>
   obtain⟨k,hk,rfl,hall⟩:=hrel;have HA:=aE hall;clear hall;by_cases hlt:k<l.length
   ·obtain⟨a,hu⟩:∃u,l[k]? =some u:=⟨_,List.getElem?_eq_getElem hlt⟩
    have k0:=HC.out k _ hu;by_cases he:a=x
    ·have HE:Hid (cY l x=k):=by unfold Hid;rw[←HA.out,Nt (by rw[hu,he])];rfl
     have hb:(a==x)=true:=beq_iff_eq.2 he;clear hu he;go_wp2;go_ret;exact⟨rfl,by rw[HE.out];rfl⟩
    ·have HN:Hid (k+1+cY (l.drop (k+1)) x=cY l x):=by unfold Hid;rw[←HA.out,Rp hu he];omega
     have hb:(a==x)=false:=beq_eq_false_iff_ne.2 he;clear hu he;go_wp2;go_round
     case rel=>exact⟨k+1,by omega,by simp,HN.out⟩
     case measure=>simp[intOf];omega
   ·have e:k=l.length:=by omega
    have HE:Hid (cY l x=l.length):=by unfold Hid;rw[←HA.out,e,List.drop_length];rfl
    clear HA;subst e;go_wp2;go_ret;exact⟨rfl,by rw[HE.out];rfl⟩
end Go.Proofs.YtgjgjgihceijnaaGreat
namespace Go.Stn
def vQ (next:Nat->Int)(pl:Int):Nat->Int
 | 0=>0
 | k+1=>if gZ pl (lZ k)=0 then vQ next pl k else orI (vQ next pl k) (next k)
def K1 (next:Nat->Int)(pl:Int):Int:=vQ next pl 10
end Go.Stn
namespace Go.Proofs.YtgjgjgihceijnaaGreat
open Go.RowKit Go.Stn
structure dH (w:World)(nb:Nat)(vf vl:Value)(next:Nat->Int):Prop where
 c0:w.cell? ⟨nb,0,none⟩=some vf
 c1:w.cell? ⟨nb,1,none⟩=some vl
 nx:∀k,k<10->w.cell? ⟨nb,2+k,none⟩=some (.int .i64 (next k))
 fz:∀i,w.frozen? ⟨nb,i,none⟩=false
theorem Bq (next:Nat->Int)(pl:Int)(nb:Nat)(vf vl:Value)(w:World)(h:dH w nb vf vl next):
  Calls Tryz.prog 70 #[.pointer (some ⟨nb,0,none⟩),.int .i64 pl] w fun e w'=>w'=w/\e= .returned (.int .i64 (K1 next pl)):=by
 have HN:=aE h.nx;clear h;go_enter Tryz.func70,Tryz.ntmps70;go_wp2_with fail
 go_loop [5,7] (fun x i=>∃k:Nat,k<=10/\i= .int .i64 (k:Int)/\x= .int .i64 (vQ next pl k)) (fun _ i=>10 - (intOf i).toNat)
 case atStart=>exact⟨0,bK _,rfl,rfl⟩
 case round=>
  obtain⟨k,hk,rfl,rfl⟩:=hrel;by_cases hlt:k<10
  ·have HS:Hid (vQ next pl (k+1)=if gZ pl (lZ k)=0 then vQ next pl k else orI (vQ next pl k) (next k)):=rfl;have hc:=HN.out k hlt;have hkI:(k:Int)<10:=by omega
   generalize vQ next pl k=acc at*;go_wp2_with fail;refine(qM k (by omega) _).mono ?_;rintro e w1 ⟨rfl,rfl⟩;by_cases hz:gZ pl (lZ k)=0
   ·have HE:Hid (vQ next pl (k+1)=acc):=HS.out.trans (if_pos hz);have hz':(bits .and .i64 pl (lZ k) !=0)=false:=by rw[show bits .and .i64 pl (lZ k)=0 from hz];rfl
    clear hz HS;go_wp2;go_round
    case rel=>exact⟨k+1,by omega,by simp,by rw[HE.out]⟩
    case measure=>simp[intOf];omega
   ·have HE:Hid (vQ next pl (k+1)=orI acc (next k)):=HS.out.trans (if_neg hz);have hz':(bits .and .i64 pl (lZ k) !=0)=true:=bne_iff_ne.2 hz;clear hz HS;go_wp2;go_round
    case rel=>exact⟨k+1,by omega,by simp,by rw[HE.out];rfl⟩
    case measure=>simp[intOf];omega
  ·have e:k=10:=by omega
   subst e;go_wp2;go_ret;exact⟨rfl,rfl⟩
end Go.Proofs.YtgjgjgihceijnaaGreat
namespace Go.Stn
def qH (next:Nat->Int)(fr dst:Int)(k:Nat):Nat->Int:=fun i=>if i<k/\gZ fr (lZ i)≠0 then orI (next i) dst else next i
def lG (next:Nat->Int)(fr dst:Int):Nat->Int:=qH next fr dst 10
theorem Gt (next:Nat->Int)(fr dst:Int)(k:Nat):qH next fr dst k k=next k:=by unfold qH;rw[if_neg (by omega)]
theorem Pq {next:Nat->Int}{fr dst:Int}{k:Nat}(h:gZ fr (lZ k)=0):qH next fr dst (k+1)=qH next fr dst k:=by
 funext i
 unfold qH;by_cases e:i=k
 ·subst e;rw[if_neg (by simp[h]),if_neg (by omega)]
 ·by_cases hi:i<k
  ·simp[hi,show i<k+1 by omega]
  ·simp[hi,show¬i<k+1 by omega]
theorem Lg {next:Nat->Int}{fr dst:Int}{k:Nat}(h:gZ fr (lZ k)≠0)(i:Nat):qH next fr dst (k+1) i=if i=k then orI (next k) dst else qH next fr dst k i:=by
 unfold qH;by_cases e:i=k
 ·subst e;rw[if_pos ⟨by omega,h⟩,if_pos rfl]
 ·rw[if_neg e];by_cases hi:i<k
  ·simp[hi,show i<k+1 by omega]
  ·simp[hi,show¬i<k+1 by omega]
end Go.Stn
namespace Go.Proofs.YtgjgjgihceijnaaGreat
open Go.RowKit Go.Stn
theorem dH.set {w:World}{nb:Nat}{vf vl:Value}{next next':Nat->Int}(h:dH w nb vf vl next)(k:Nat)(hk:k<10)(v:Int)(hn:∀i,next' i=if i=k then v else next i):dH (w.setCell ⟨nb,2+k,none⟩ (.int .i64 v)) nb vf vl next':=by
 refine⟨?_, ?_,fun i hi=> ?_,fun i=>by rw[bC];exact h.fz i⟩
 ·rw[bD (h:=by intro e;injection e;omega)];exact h.c0
 ·rw[bD (h:=by intro e;injection e;omega)];exact h.c1
 ·rw[hn i];by_cases e:i=k
  ·subst e;rw[if_pos rfl,World.cell?_setCell_same' _ _ _ (by rw[h.nx i hi];rfl)]
  ·rw[if_neg e,bD (h:=by intro e;injection e;omega)];exact h.nx i hi
theorem dH.drew {w:World}{nb:Nat}{vf vl:Value}{next:Nat->Int}(h:dH w nb vf vl next):dH w.drew nb vf vl next:=⟨h.c0,h.c1,h.nx,h.fz⟩
theorem Aq {a w:World}{r:Option Nat}(h:a.grownBy w r):a.grownBy w.drew r:=⟨h.os,h.tape,h.output,h.size,h.block⟩
theorem zI (next:Nat->Int)(fr dst:Int)(nb:Nat)(vf vl:Value)(w:World)(h:dH w nb vf vl next):
  Calls Tryz.prog 98 #[.pointer (some ⟨nb,0,none⟩),.int .i64 fr,.int .i64 dst] w fun e w'=>w.grownBy w' (some nb)/\dH w' nb vf vl (lG next fr dst)/\e= .returned (.tuple #[]):=by
 have HN:=aE h;clear h;go_enter Tryz.func98,Tryz.ntmps98;go_wp2_with fail
 go_loopw [7] (fun i wr=>∃k:Nat,k<=10/\i= .int .i64 (k:Int)/\w.grownBy wr (some nb)/\dH wr nb vf vl (qH next fr dst k)) (fun i _=>10 - (intOf i).toNat)
 case atStart=>exact⟨0,bK _,rfl,World.grownBy.refl _ _,by
  have e:qH next fr dst 0=next:=by(funext i;unfold qH;simp)
  rw[e];exact HN.out⟩
 case round=>
  obtain⟨k,hk,rfl,hg,hn⟩:=hrel;have HG:=aE hg;have HA:=aE hn;clear hg hn HN;by_cases hlt:k<10
  ·have hc:=HA.out.nx k hlt;rw[Gt]at hc;have hz:=HA.out.fz (2+k);have hkI:(k:Int)<10:=by omega
   go_wp2_with fail;refine(qM k (by omega) _).mono ?_;rintro e w1 ⟨rfl,rfl⟩;by_cases hz0:gZ fr (lZ k)=0
   ·have HE:=aE (Pq (next:=next) (dst:=dst) hz0);have hz':(bits .and .i64 fr (lZ k) !=0)=false:=by rw[show bits .and .i64 fr (lZ k)=0 from hz0];rfl
    clear hz0;go_wp2;go_roundw
    case rel=>exact⟨k+1,by omega,by simp,HG.out,by rw[HE.out];exact HA.out⟩
    case measure=>simp[intOf];omega
   ·have HE:=aE (Lg (next:=next) (dst:=dst) hz0);have hz':(bits .and .i64 fr (lZ k) !=0)=true:=bne_iff_ne.2 hz0;clear hz0;go_wp2
    go_region
    all_goals
     go_wp2;go_roundw
     case rel=>exact⟨k+1,by omega,by simp,fX (Aq HG.out) _ _,HA.out.drew.set k hlt _ HE.out⟩
     case measure=>simp[intOf];omega
  ·have e:k=10:=by omega
   subst e;go_wp2
   go_end0
   exact⟨HG.out,HA.out,rfl⟩
end Go.Proofs.YtgjgjgihceijnaaGreat
namespace Go.Stn
def iS (kind left:Int)(l r:Int×Int×Bool)(next:Nat->Int):(Int×Int×Bool)×(Nat->Int):=
 if kind=0 then((lZ left.toNat,lZ left.toNat,false),next)
 else if kind=1 then(sC l r,lG next l.2.1 r.1)
 else if kind=2 then((orI l.1 r.1,orI l.2.1 r.2.1,l.2.2 || r.2.2),next)
 else if kind=3 then((l.1,l.2.1,true),next)
 else if kind=4 then(l,lG next l.2.1 l.1)
 else((l.1,l.2.1,true),lG next l.2.1 l.1)
end Go.Stn
namespace Go.Proofs.YtgjgjgihceijnaaGreat
open Go.RowKit Go.Stn
theorem dH.below {w w':World}{nb B:Nat}{vf vl:Value}{next:Nat->Int}(h:dH w nb vf vl next)(hB:Below B w w')(hb:nb<B):dH w' nb vf vl next:=
 ⟨(hB.cell (p:=⟨nb,0,none⟩) hb).trans h.c0,(hB.cell (p:=⟨nb,1,none⟩) hb).trans h.c1,fun k hk=>(hB.cell (p:=⟨nb,2+k,none⟩) hb).trans (h.nx k hk),fun i=>(hB.frozen (p:=⟨nb,i,none⟩) hb).trans (h.fz i)⟩
theorem U3 (w:World)(a b c d e f g h i:Value)(t1 t2:TypeId)(x y z:Value):
  cZ ((((w.alloc (.cells #[a,b,c] t1)).alloc (.cells #[d,e,f] t2)).alloc (.cells #[g,h,i] t2)).alloc (.cells #[x,y,z] t2)) (w.heap.size+1) d e f/\
  cZ ((((w.alloc (.cells #[a,b,c] t1)).alloc (.cells #[d,e,f] t2)).alloc (.cells #[g,h,i] t2)).alloc (.cells #[x,y,z] t2)) (w.heap.size+1+1) g h i/\
  cZ ((((w.alloc (.cells #[a,b,c] t1)).alloc (.cells #[d,e,f] t2)).alloc (.cells #[g,h,i] t2)).alloc (.cells #[x,y,z] t2)) (w.heap.size+1+1+1) x y z:=
 ⟨((cZ.new _ _ _ _ _ _ (by simp)).alloc (by simp) _).alloc (by simp) _,(cZ.new _ _ _ _ _ _ (by simp)).alloc (by simp) _,cZ.new _ _ _ _ _ _ (by simp)⟩
def mQ (w:World)(nb:Nat)(vf vl:Value)(x:(Int×Int×Bool)×(Nat->Int))(e:Ending)(w':World):Prop:=
 w.grownBy w' (some nb)/\dH w' nb vf vl x.2/\e= .returned (lW x.1)
theorem sS {a w:World}{r:Option Nat}(h:a.grownBy w r){b:Nat}(hb:a.heap.size<=b)(x y z:Value):a.grownBy (((w.setCell ⟨b,0,none⟩ x).setCell ⟨b,1,none⟩ y).setCell ⟨b,2,none⟩ z) r:=
 jI (jI (jI h hb 0 x) hb 1 y) hb 2 z
theorem dH.three {w:World}{nb b:Nat}{vf vl:Value}{next:Nat->Int}(h:dH w nb vf vl next)(hb:nb<b)(x y z:Value):dH (((w.setCell ⟨b,0,none⟩ x).setCell ⟨b,1,none⟩ y).setCell ⟨b,2,none⟩ z) nb vf vl next:=
 h.below (qG (cF b w) (aO _) x y z) hb
theorem cZ.other1 {w:World}{b:Nat}{x y z:Value}(h:cZ w b x y z)(c i:Nat)(v:Value)(hc:b≠c):cZ (w.setCell ⟨c,i,none⟩ v) b x y z:=
 h.block (Below.heap_setCell w ⟨c,i,none⟩ v b hc)
theorem Uo (next:Nat->Int)(p:Nat)(hp:p<10)(z:Int)(l r:Int×Int×Bool)(nb:Nat)(vf vl:Value)(w:World)(hnb:nb<w.heap.size)(h:dH w nb vf vl next):
  Calls Tryz.prog 68 #[.pointer (some ⟨nb,0,none⟩),.agg #[.int .i64 0,.int .i64 (p:Int),.int .i64 z],lW l,lW r] w (mQ w nb vf vl (iS 0 p l r next)):=by
 obtain⟨l1,l2,l3⟩:=l;obtain⟨r1,r2,r3⟩:=r;have HH:=aE h;clear h;show Calls _ _ #[_,_,.agg #[.int .i64 l1,.int .i64 l2,.bool l3],.agg #[.int .i64 r1,.int .i64 r2,.bool r3]] _ _;go_enter Tryz.func68,Tryz.ntmps68;go_wp2_with fail;refine(qM p (by omega) _).mono ?_;rintro e w1 ⟨rfl,rfl⟩;go_wp2_with fail;exact eP Tryz.results68 (w.heap.size+1+1+1) 0 _ _ rfl (U3 _ _ _ _ _ _ _ _ _ _ _ _ _ _ _).2.2.range Tryz.underlying164 rfl Tryz.partSize rfl
  ⟨bU (mX _ _ _ _ _) (aO _) _,HH.out.below (mX _ _ _ _ _) hnb,rfl⟩
theorem Tf (next:Nat->Int)(y z:Int)(l r:Int×Int×Bool)(nb:Nat)(vf vl:Value)(w:World)(hnb:nb<w.heap.size)(h:dH w nb vf vl next):
  Calls Tryz.prog 68 #[.pointer (some ⟨nb,0,none⟩),.agg #[.int .i64 2,.int .i64 y,.int .i64 z],lW l,lW r] w (mQ w nb vf vl (iS 2 y l r next)):=by
 obtain⟨l1,l2,l3⟩:=l;obtain⟨r1,r2,r3⟩:=r;have HH:=aE h;clear h;show Calls _ _ #[_,_,.agg #[.int .i64 l1,.int .i64 l2,.bool l3],.agg #[.int .i64 r1,.int .i64 r2,.bool r3]] _ _
 cases l3
 all_goals
  go_enter Tryz.func68,Tryz.ntmps68;go_wp2_with fail;exact eP Tryz.results68 (w.heap.size+1+1+1) 0 _ _ rfl (U3 _ _ _ _ _ _ _ _ _ _ _ _ _ _ _).2.2.range Tryz.underlying164 rfl Tryz.partSize rfl
   ⟨bU (mX _ _ _ _ _) (aO _) _,HH.out.below (mX _ _ _ _ _) hnb,rfl⟩
theorem Vi (next:Nat->Int)(y z:Int)(l r:Int×Int×Bool)(nb:Nat)(vf vl:Value)(w:World)(hnb:nb<w.heap.size)(h:dH w nb vf vl next):
  Calls Tryz.prog 68 #[.pointer (some ⟨nb,0,none⟩),.agg #[.int .i64 3,.int .i64 y,.int .i64 z],lW l,lW r] w (mQ w nb vf vl (iS 3 y l r next)):=by
 obtain⟨l1,l2,l3⟩:=l;obtain⟨r1,r2,r3⟩:=r;have HH:=aE h;clear h;show Calls _ _ #[_,_,.agg #[.int .i64 l1,.int .i64 l2,.bool l3],.agg #[.int .i64 r1,.int .i64 r2,.bool r3]] _ _;go_enter Tryz.func68,Tryz.ntmps68;go_wp2_with fail;exact eP Tryz.results68 (w.heap.size+1+1+1) 0 _ _ rfl (U3 _ _ _ _ _ _ _ _ _ _ _ _ _ _ _).2.2.range Tryz.underlying164 rfl Tryz.partSize rfl
  ⟨bU (mX _ _ _ _ _) (aO _) _,HH.out.below (mX _ _ _ _ _) hnb,rfl⟩
theorem Uw (next:Nat->Int)(y z:Int)(l r:Int×Int×Bool)(nb:Nat)(vf vl:Value)(w:World)(hnb:nb<w.heap.size)(h:dH w nb vf vl next):
  Calls Tryz.prog 68 #[.pointer (some ⟨nb,0,none⟩),.agg #[.int .i64 4,.int .i64 y,.int .i64 z],lW l,lW r] w (mQ w nb vf vl (iS 4 y l r next)):=by
 obtain⟨l1,l2,l3⟩:=l;obtain⟨r1,r2,r3⟩:=r;show Calls _ _ #[_,_,.agg #[.int .i64 l1,.int .i64 l2,.bool l3],.agg #[.int .i64 r1,.int .i64 r2,.bool r3]] _ _;have HB:=aE (mX w (.cells #[.int .i64 4,.int .i64 y,.int .i64 z] 162) (.cells #[.int .i64 l1,.int .i64 l2,.bool l3] 164) (.cells #[.int .i64 r1,.int .i64 r2,.bool r3] 164) (.cells #[.int .i64 0,.int .i64 0,.bool false] 164));have HF:=aE (U3 w (.int .i64 4) (.int .i64 y) (.int .i64 z) (.int .i64 l1) (.int .i64 l2) (.bool l3) (.int .i64 r1) (.int .i64 r2) (.bool r3) 162 164 (.int .i64 0) (.int .i64 0) (.bool false));have hsz:((((w.alloc (.cells #[.int .i64 4,.int .i64 y,.int .i64 z] 162)).alloc (.cells #[.int .i64 l1,.int .i64 l2,.bool l3] 164)).alloc (.cells #[.int .i64 r1,.int .i64 r2,.bool r3] 164)).alloc (.cells #[.int .i64 0,.int .i64 0,.bool false] 164)).heap.size=w.heap.size+4:=by simp
 go_enter Tryz.func68,Tryz.ntmps68;go_wp2_with fail;generalize (((w.alloc (.cells #[.int .i64 4,.int .i64 y,.int .i64 z] 162)).alloc (.cells #[.int .i64 l1,.int .i64 l2,.bool l3] 164)).alloc (.cells #[.int .i64 r1,.int .i64 r2,.bool r3] 164)).alloc (.cells #[.int .i64 0,.int .i64 0,.bool false] 164)=W at*;refine(zI next l2 l1 nb vf vl W (h.below HB.out hnb)).mono ?_;rintro e w1 ⟨hg,hn,rfl⟩;have H1:=aE (HF.out.1.block (hg.block _ (by omega) (by intro e;injection e;omega)));have H2:=aE (HF.out.2.1.block (hg.block _ (by omega) (by intro e;injection e;omega)));have H3:=aE (HF.out.2.2.block (hg.block _ (by omega) (by intro e;injection e;omega)));have HG:=aE (aH (bU HB.out (aO _) (some nb)) hg);have HN:=aE hn;have hs1:w.heap.size+4<=w1.heap.size:=by have:=hg.size;omega
 clear hg hn h HB HF hsz;have a0:=H1.out.c0;have a1:=H1.out.c1;have a2:=H1.out.c2;have b0:=H3.out.c0;have b1:=H3.out.c1;have b2:=H3.out.c2;have z0:=H3.out.z 0;have z1:=H3.out.z 1;have z2:=H3.out.z 2;go_wp2_with fail;exact eP Tryz.results68 (w.heap.size+1+1+1) 0 _ _ rfl (H3.out.stored _ _ _).range Tryz.underlying164 rfl Tryz.partSize rfl
  ⟨sS HG.out (by omega) _ _ _,HN.out.three (by omega) _ _ _,rfl⟩
theorem St (next:Nat->Int)(y z:Int)(l r:Int×Int×Bool)(nb:Nat)(vf vl:Value)(w:World)(hnb:nb<w.heap.size)(h:dH w nb vf vl next):
  Calls Tryz.prog 68 #[.pointer (some ⟨nb,0,none⟩),.agg #[.int .i64 5,.int .i64 y,.int .i64 z],lW l,lW r] w (mQ w nb vf vl (iS 5 y l r next)):=by
 obtain⟨l1,l2,l3⟩:=l;obtain⟨r1,r2,r3⟩:=r;show Calls _ _ #[_,_,.agg #[.int .i64 l1,.int .i64 l2,.bool l3],.agg #[.int .i64 r1,.int .i64 r2,.bool r3]] _ _;have HB:=aE (mX w (.cells #[.int .i64 5,.int .i64 y,.int .i64 z] 162) (.cells #[.int .i64 l1,.int .i64 l2,.bool l3] 164) (.cells #[.int .i64 r1,.int .i64 r2,.bool r3] 164) (.cells #[.int .i64 0,.int .i64 0,.bool false] 164));have HF:=aE (U3 w (.int .i64 5) (.int .i64 y) (.int .i64 z) (.int .i64 l1) (.int .i64 l2) (.bool l3) (.int .i64 r1) (.int .i64 r2) (.bool r3) 162 164 (.int .i64 0) (.int .i64 0) (.bool false));have hsz:((((w.alloc (.cells #[.int .i64 5,.int .i64 y,.int .i64 z] 162)).alloc (.cells #[.int .i64 l1,.int .i64 l2,.bool l3] 164)).alloc (.cells #[.int .i64 r1,.int .i64 r2,.bool r3] 164)).alloc (.cells #[.int .i64 0,.int .i64 0,.bool false] 164)).heap.size=w.heap.size+4:=by simp
 go_enter Tryz.func68,Tryz.ntmps68;go_wp2_with fail;generalize (((w.alloc (.cells #[.int .i64 5,.int .i64 y,.int .i64 z] 162)).alloc (.cells #[.int .i64 l1,.int .i64 l2,.bool l3] 164)).alloc (.cells #[.int .i64 r1,.int .i64 r2,.bool r3] 164)).alloc (.cells #[.int .i64 0,.int .i64 0,.bool false] 164)=W at*;refine(zI next l2 l1 nb vf vl W (h.below HB.out hnb)).mono ?_;rintro e w1 ⟨hg,hn,rfl⟩;have H1:=aE (HF.out.1.block (hg.block _ (by omega) (by intro e;injection e;omega)));have H2:=aE (HF.out.2.1.block (hg.block _ (by omega) (by intro e;injection e;omega)));have H3:=aE (HF.out.2.2.block (hg.block _ (by omega) (by intro e;injection e;omega)));have HG:=aE (aH (bU HB.out (aO _) (some nb)) hg);have HN:=aE hn;have hs1:w.heap.size+4<=w1.heap.size:=by have:=hg.size;omega
 clear hg hn h HB HF hsz;have a0:=H1.out.c0;have a1:=H1.out.c1;have a2:=H1.out.c2;have b0:=H3.out.c0;have b1:=H3.out.c1;have b2:=H3.out.c2;have z0:=H3.out.z 0;have z1:=H3.out.z 1;have z2:=H3.out.z 2;have y2:=H1.out.z 2;have H4:=aE (H3.out.other1 (w.heap.size+1) 2 (.bool true) (by omega));have HG4:=aE (jI HG.out (b:=w.heap.size+1) (by omega) 2 (.bool true));have HN4:=aE (HN.out.below ((cF (w.heap.size+1) w1).setCell (p:=⟨w.heap.size+1,2,none⟩) (aO _) (.bool true)) (by omega));go_wp2_with fail;exact eP Tryz.results68 (w.heap.size+1+1+1) 0 _ _ rfl (H4.out.stored _ _ _).range Tryz.underlying164 rfl Tryz.partSize rfl
  ⟨sS HG4.out (by omega) _ _ _,HN4.out.three (by omega) _ _ _,rfl⟩
theorem Vk (next:Nat->Int)(y z:Int)(l r:Int×Int×Bool)(nb:Nat)(vf vl:Value)(w:World)(hnb:nb<w.heap.size)(h:dH w nb vf vl next):
  Calls Tryz.prog 68 #[.pointer (some ⟨nb,0,none⟩),.agg #[.int .i64 1,.int .i64 y,.int .i64 z],lW l,lW r] w (mQ w nb vf vl (iS 1 y l r next)):=by
 obtain⟨l1,l2,l3⟩:=l;obtain⟨r1,r2,r3⟩:=r;show Calls _ _ #[_,_,.agg #[.int .i64 l1,.int .i64 l2,.bool l3],.agg #[.int .i64 r1,.int .i64 r2,.bool r3]] _ _;have HB:=aE (mX w (.cells #[.int .i64 1,.int .i64 y,.int .i64 z] 162) (.cells #[.int .i64 l1,.int .i64 l2,.bool l3] 164) (.cells #[.int .i64 r1,.int .i64 r2,.bool r3] 164) (.cells #[.int .i64 0,.int .i64 0,.bool false] 164));have HF:=aE (U3 w (.int .i64 1) (.int .i64 y) (.int .i64 z) (.int .i64 l1) (.int .i64 l2) (.bool l3) (.int .i64 r1) (.int .i64 r2) (.bool r3) 162 164 (.int .i64 0) (.int .i64 0) (.bool false));have hsz:((((w.alloc (.cells #[.int .i64 1,.int .i64 y,.int .i64 z] 162)).alloc (.cells #[.int .i64 l1,.int .i64 l2,.bool l3] 164)).alloc (.cells #[.int .i64 r1,.int .i64 r2,.bool r3] 164)).alloc (.cells #[.int .i64 0,.int .i64 0,.bool false] 164)).heap.size=w.heap.size+4:=by simp
 go_enter Tryz.func68,Tryz.ntmps68;go_wp2_with fail;generalize (((w.alloc (.cells #[.int .i64 1,.int .i64 y,.int .i64 z] 162)).alloc (.cells #[.int .i64 l1,.int .i64 l2,.bool l3] 164)).alloc (.cells #[.int .i64 r1,.int .i64 r2,.bool r3] 164)).alloc (.cells #[.int .i64 0,.int .i64 0,.bool false] 164)=W at*;refine(zI next l2 r1 nb vf vl W (h.below HB.out hnb)).mono ?_;rintro e w1 ⟨hg,hn,rfl⟩;have H1:=aE (HF.out.1.block (hg.block _ (by omega) (by intro e;injection e;omega)));have H2:=aE (HF.out.2.1.block (hg.block _ (by omega) (by intro e;injection e;omega)));have H3:=aE (HF.out.2.2.block (hg.block _ (by omega) (by intro e;injection e;omega)));have HG:=aE (aH (bU HB.out (aO _) (some nb)) hg);have HN:=aE hn;have hs1:w.heap.size+4<=w1.heap.size:=by have:=hg.size;omega
 clear hg hn h HB HF hsz;have a0:=H1.out.c0;have a1:=H1.out.c1;have a2:=H1.out.c2;have e0:=H2.out.c0;have e1:=H2.out.c1;have e2:=H2.out.c2;go_wp2_with fail;refine(Cj l1 l2 r1 r2 l3 r3 _).mono ?_;rintro e w2 ⟨hb2,rfl⟩;have H4:=aE (H3.out.block (hb2.block _ (by omega)));have HG4:=aE (aH HG.out (bU hb2 (aO _) (some nb)));have HN4:=aE (HN.out.below hb2 (by omega));clear hb2 a0 a1 a2 e0 e1 e2 H1 H2 H3;have b0:=H4.out.c0;have b1:=H4.out.c1;have b2:=H4.out.c2;have z0:=H4.out.z 0;have z1:=H4.out.z 1;have z2:=H4.out.z 2;have HE:Hid ((iS 1 y (l1,l2,l3) (r1,r2,r3) next)=(sC (l1,l2,l3) (r1,r2,r3),lG next l2 r1)):=rfl;generalize sC (l1,l2,l3) (r1,r2,r3)=J at*;obtain⟨j1,j2,j3⟩:=J;unfold lW;go_wp2_with fail;refine eP Tryz.results68 (w.heap.size+1+1+1) 0 _ _ rfl (H4.out.stored _ _ _).range Tryz.underlying164 rfl Tryz.partSize rfl ?_;rw[HE.out];exact⟨sS HG4.out (by omega) _ _ _,HN4.out.three (by omega) _ _ _,rfl⟩
end Go.Proofs.YtgjgjgihceijnaaGreat
