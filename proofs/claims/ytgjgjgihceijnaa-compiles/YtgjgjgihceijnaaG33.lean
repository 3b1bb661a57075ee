/- Texts put together: RsStepP, RsGRow. -/
import Derived.Test.YtgjgjgihceijnaaG32
import Derived.Test.YtgjgjgihceijnaaG27
namespace Go.Proofs.Ytgjgjgihceijnaa
open Go.Stn
abbrev LfT:=Nat×List Nat
def holdsB (l:List LfT)(x:LfT):Bool:=l.any (fun y=>sameB y.1 y.2 x.1 x.2)
theorem holdsB_iff {l:List LfT}{x:LfT}:holdsB l x=true↔x∈l:=by
 unfold holdsB sameB
 rw[List.any_eq_true]
 constructor
 ·rintro⟨y,hy,h⟩
  rw[decide_eq_true_eq]at h
  have:y=x:=Prod.ext h.1 h.2
  rw[←this];exact hy
 ·intro h
  exact⟨x,h,by simp⟩
def addL (out:List LfT)(x:LfT):List LfT:=if holdsB out x=true then out else out++ [x]
def addM (r:Nat)(out:List LfT)(ms:List (List Nat)):List LfT:=ms.foldl (fun o m=>addL o (r,m)) out
def rowZ (N:List RN)(c:Nat)(x:List Nat):List (List Nat):=rowD (bD N c) N x
def stepF (N:List RN)(c:Nat)(out:List LfT)(l:List LfT):List LfT:=l.foldl (fun o p=>addM p.1 o (rowZ N c p.2)) out
def stepD (N:List RN)(c:Nat)(l:List LfT):List LfT:=stepF N c [] l
theorem addM_snoc (r:Nat)(out:List LfT)(ms:List (List Nat))(m:List Nat):addM r out (ms++ [m])=addL (addM r out ms) (r,m):=by unfold addM;rw[List.foldl_append];rfl
theorem stepF_snoc (N:List RN)(c:Nat)(out l:List LfT)(p:LfT):stepF N c out (l++ [p])=addM p.1 (stepF N c out l) (rowZ N c p.2):=by unfold stepF;rw[List.foldl_append];rfl
theorem mem_addL {out:List LfT}{x y:LfT}:x∈addL out y↔x∈out∨x=y:=by
 unfold addL
 split
 ·rename_i h
  constructor
  ·exact .inl
  ·rintro(h1 | h1)
   ·exact h1
   ·rw[h1];exact holdsB_iff.1 h
 ·rw[List.mem_append,List.mem_singleton]
theorem mem_addM {r:Nat}{x:LfT}:∀{ms:List (List Nat)} {out:List LfT},x∈addM r out ms↔x∈out∨∃m,m∈ms∧x=(r,m)
 | [],out=>by
  constructor
  ·exact .inl
  ·rintro(h | ⟨m,hm,_⟩)
   ·exact h
   ·exact absurd hm List.not_mem_nil
 | a::ms,out=>by
  show x∈addM r (addL out (r,a)) ms↔_
  rw[mem_addM,mem_addL]
  constructor
  ·rintro((h | h) | ⟨m,hm,h⟩)
   ·exact .inl h
   ·exact .inr ⟨a,List.mem_cons_self,h⟩
   ·exact .inr ⟨m,List.mem_cons_of_mem _ hm,h⟩
  ·rintro(h | ⟨m,hm,h⟩)
   ·exact .inl (.inl h)
   ·rcases List.mem_cons.1 hm with e | e
    ·rw[e]at h;exact .inl (.inr h)
    ·exact .inr ⟨m,e,h⟩
theorem mem_stepF {N:List RN}{c:Nat}{x:LfT}:∀{l out:List LfT},x∈stepF N c out l↔x∈out∨∃p,p∈l∧p.1=x.1∧x.2∈rowZ N c p.2
 | [],out=>by
  constructor
  ·exact .inl
  ·rintro(h | ⟨m,hm,_⟩)
   ·exact h
   ·exact absurd hm List.not_mem_nil
 | a::l,out=>by
  show x∈stepF N c (addM a.1 out (rowZ N c a.2)) l↔_
  rw[mem_stepF,mem_addM]
  constructor
  ·rintro((h | ⟨m,hm,h⟩) | ⟨p,hp,h1,h2⟩)
   ·exact .inl h
   ·exact .inr ⟨a,List.mem_cons_self,by rw[h],by rw[h];exact hm⟩
   ·exact .inr ⟨p,List.mem_cons_of_mem _ hp,h1,h2⟩
  ·rintro(h | ⟨p,hp,h1,h2⟩)
   ·exact .inl (.inl h)
   ·rcases List.mem_cons.1 hp with e | e
    ·rw[e]at h1 h2
     exact .inl (.inr ⟨x.2,h2,Prod.ext h1.symm rfl⟩)
    ·exact .inr ⟨p,e,h1,h2⟩
theorem mem_stepD {N:List RN}{c:Nat}{l:List LfT}{x:LfT}:x∈stepD N c l↔∃p,p∈l∧p.1=x.1∧x.2∈rowZ N c p.2:=by
 unfold stepD
 rw[mem_stepF]
 exact⟨fun h=>h.resolve_left List.not_mem_nil,.inr⟩
theorem nd_addL {out:List LfT}{x:LfT}(h:out.Nodup):(addL out x).Nodup:=by
 unfold addL
 split
 ·exact h
 ·rename_i hx
  rw[List.nodup_append]
  refine⟨h,by simp,fun a ha b hb=> ?_⟩
  rw[List.mem_singleton.1 hb]
  rintro rfl
  exact hx (holdsB_iff.2 ha)
theorem nd_addM {r:Nat}:∀{ms:List (List Nat)} {out:List LfT},out.Nodup→(addM r out ms).Nodup
 | [],_,h=>h
 | m::ms,out,h=>nd_addM (ms:=ms) (out:=addL out (r,m)) (nd_addL h)
theorem nd_stepF {N:List RN}{c:Nat}:∀{l out:List LfT},out.Nodup→(stepF N c out l).Nodup
 | [],_,h=>h
 | p::l,out,h=>nd_stepF (l:=l) (out:=addM p.1 out (rowZ N c p.2)) (nd_addM h)
theorem nd_stepD (N:List RN)(c:Nat)(l:List LfT):(stepD N c l).Nodup:=nd_stepF List.nodup_nil
theorem nodup_len {α:Type} [DecidableEq α]:∀{l S:List α},l.Nodup→(∀x,x∈l→x∈S)→l.length≤S.length
 | [],S,_,_=>Nat.zero_le _
 | a::l,S,hn,h=>by
  have ha:=h a List.mem_cons_self
  rw[List.nodup_cons]at hn
  have ih:=nodup_len (S:=S.erase a) hn.2 (fun x hx=>by
   have hne:x≠a:=fun e=>hn.1 (by rw[←e];exact hx)
   exact(List.mem_erase_of_ne hne).2 (h x (List.mem_cons_of_mem _ hx)))
  rw[List.length_erase_of_mem ha]at ih
  have:=List.length_pos_of_mem ha
  rw[List.length_cons]
  omega
structure FileP (N:List RN)(tops ks:List Nat):Prop where
 sh:ShapeN N
 cl:ClosedN N
 len:ks.length=tops.length
 tr:∀(r n k:Nat),tops[r]? =some n→ks[r]? =some k→n<N.length∧Tr N n k
 sum:ks.sum≤10
 r8:tops.length≤8
 n3:N.length≤3000
def UL (N:List RN)(tops:List Nat)(p:LfT):Prop:=∃n,tops[p.1]? =some n∧p.2∈pD N n
def UB (N:List RN)(tops:List Nat)(p:LfT):Prop:=∃n,tops[p.1]? =some n∧(p.2= [n]∨p.2∈pD N n)
theorem UL.ub {N:List RN}{tops:List Nat}{p:LfT}(h:UL N tops p):UB N tops p:=by
 obtain⟨n,h1,h2⟩:=h
 exact⟨n,h1,.inr h2⟩
section
variable {N:List RN} {tops ks:List Nat}
theorem le_sum:∀{l:List Nat} {k:Nat},k∈l→k≤l.sum
 | [],k,h=>absurd h List.not_mem_nil
 | a::l,k,h=>by
  rw[List.sum_cons]
  rcases List.mem_cons.1 h with e | e
  ·omega
  ·have:=le_sum e;omega
theorem FileP.top (h:FileP N tops ks){r n:Nat}(hr:tops[r]? =some n):∃k,ks[r]? =some k∧n<N.length∧Tr N n k∧k≤10:=by
 have hlt:=(List.getElem?_eq_some_iff.1 hr).1
 have hk:=List.getElem?_eq_getElem (l:=ks) (i:=r) (by rw[h.len];exact hlt)
 obtain⟨h1,h2⟩:=h.tr r n _ hr hk
 have:=h.sum
 have hle:=le_sum (List.mem_of_getElem? hk)
 exact⟨_,hk,h1,h2,by omega⟩
theorem rowD_one {B:Nat→List (List Nat)}{n:Nat}:rowD B N [n]=B n:=by
 unfold rowD
 have:(if emB N n=true then rowD B N []else [])= []:=by unfold rowD;split<;> rfl
 rw[this,List.append_nil]
 simp
theorem FileP.step_in (h:FileP N tops ks){p:LfT}(hp:UB N tops p){c:Nat}{m:List Nat}(hm:m∈rowZ N c p.2):UL N tops (p.1,m):=by
 obtain⟨n,h1,h2⟩:=hp
 obtain⟨k,_,hn,_,_⟩:=h.top h1
 refine⟨n,h1, ?_⟩
 unfold rowZ at hm
 rcases h2 with e | e
 ·rw[e,rowD_one]at hm
  exact bD_sub h.cl n hn m hm
 ·exact pD_step h.cl n hn p.2 e m hm
theorem FileP.step_all (h:FileP N tops ks){l:List LfT}(hl:∀p,p∈l→UB N tops p){c:Nat}:∀p,p∈stepD N c l→UL N tops p:=fun x hx=>by
 obtain⟨p,h1,h2,h3⟩:=mem_stepD.1 hx
 have:=h.step_in (hl p h1) h3
 rw[h2]at this
 exact this
theorem univ:∀(tops ks:List Nat) (r0:Nat),ks.length=tops.length→(∀(r n k:Nat),tops[r]? =some n→ks[r]? =some k→n<N.length∧Tr N n k)→∃S:List LfT,S.length≤ks.sum∧∀(r n:Nat) (y:List Nat),tops[r]? =some n→y∈pD N n→(r0+r,y)∈S
 | [],ks,r0,_,_=>⟨[],by simp,fun r n y h=>by simp at h⟩
 | t::tops,[],r0,hl,_=>by simp at hl
 | t::tops,k::ks,r0,hl,h=>by
  obtain⟨S,h1,h2⟩:=univ tops ks (r0+1) (by simpa using hl) (fun r n q hn hq=>h (r+1) n q (by simpa using hn) (by simpa using hq))
  obtain⟨_,⟨T,h3,h4⟩,_⟩:=h 0 t k rfl rfl
  refine⟨T.map (fun y=>(r0,y))++S,by rw[List.length_append,List.length_map,List.sum_cons];omega,fun r n y hn hy=> ?_⟩
  cases r with
  | zero=>
   have e:t=n:=by simpa using hn
   subst e
   exact List.mem_append.2 (.inl (List.mem_map.2 ⟨y,h4 y hy,rfl⟩))
  | succ r=>
   have:=h2 r n y (by simpa using hn) hy
   rw[show r0+1+r=r0+(r+1) by omega]at this
   exact List.mem_append.2 (.inr this)
theorem FileP.univ (h:FileP N tops ks):∃S:List LfT,S.length≤10∧∀p,UL N tops p→p∈S:=by
 obtain⟨S,h1,h2⟩:=Go.Proofs.Ytgjgjgihceijnaa.univ (N:=N) tops ks 0 h.len h.tr
 have:=h.sum
 refine⟨S,by omega,fun p hp=> ?_⟩
 obtain⟨n,h3,h4⟩:=hp
 have:=h2 p.1 n p.2 h3 h4
 rw[Nat.zero_add]at this
 exact this
theorem FileP.few (h:FileP N tops ks){l:List LfT}(hn:l.Nodup)(hl:∀p,p∈l→UL N tops p):l.length≤10:=by
 obtain⟨S,h1,h2⟩:=h.univ
 have:=nodup_len hn (fun x hx=>h2 x (hl x hx))
 omega
theorem FileP.bnd (h:FileP N tops ks){p:LfT}(hp:UB N tops p):(∀m,m∈p.2→m<N.length∧∀c,(bD N c m).length≤10)∧p.2.length≤700000∧p.1<tops.length:=by
 obtain⟨n,h1,h2⟩:=hp
 obtain⟨k,_,hn,ht,hk⟩:=h.top h1
 have h3:=h.n3
 have hu:∀m,m∈p.2→Und N n m:=fun m hm=>by
  rcases h2 with e | e
  ·rw[e]at hm;rw[List.mem_singleton.1 hm];exact .refl
  ·exact pD_und h.cl n hn p.2 e m hm
 refine⟨fun m hm=>⟨(hu m hm).lt h.cl hn,fun c=>by have:=ht.2 m (hu m hm) c;omega⟩, ?_,(List.getElem?_eq_some_iff.1 h1).1⟩
 rcases h2 with e | e
 ·rw[e,List.length_singleton];omega
 ·have:=(pD_bnd h.cl h.sh n hn p.2 e).2
  omega
def WL (N:List RN)(l:List LfT)(r:Nat)(w:List Nat):Prop:=∃p,p∈l∧p.1=r∧CatW (WN N) p.2 w
theorem FileP.wl_step (h:FileP N tops ks){l:List LfT}(hl:∀p,p∈l→UB N tops p){c:Nat}(hc:c<256)(r:Nat)(w:List Nat):WL N (stepD N c l) r w↔WL N l r (c::w):=by
 have hrow:∀p,p∈l→((∃y,y∈rowZ N c p.2∧CatW (WN N) y w)↔CatW (WN N) p.2 (c::w)):=fun p hp=>
  rowD_ok h.sh p.2 (fun m hm=>behD_ok h.sh h.cl hc (m+1) m (by omega) ((h.bnd (hl p hp)).1 m hm).1) w
 constructor
 ·rintro⟨x,hx,h1,h2⟩
  obtain⟨p,h3,h4,h5⟩:=mem_stepD.1 hx
  exact⟨p,h3,by omega,(hrow p h3).1 ⟨x.2,h5,h2⟩⟩
 ·rintro⟨p,hp,h1,h2⟩
  obtain⟨y,hy,h3⟩:=(hrow p hp).2 h2
  exact⟨(p.1,y),mem_stepD.2 ⟨p,hp,rfl,hy⟩,h1,h3⟩
theorem FileP.done (h:FileP N tops ks)(x:List Nat):doneB N x=true↔CatW (WN N) x []:=by
 unfold doneB
 rw[List.all_eq_true,CatW_nil]
 exact⟨fun k m hm=>(emB_iff h.sh m).1 (k m hm),fun k m hm=>(emB_iff h.sh m).2 (k m hm)⟩
end
def rulF (N:List RN)(b:Int)(p:LfT):Int:=if doneB N p.2=true∧(b= -1∨(p.1:Int)<b)then(p.1:Int)else b
def ruleD (N:List RN)(l:List LfT):Int:=l.foldl (rulF N) (-1)
theorem rulF_snoc (N:List RN)(l:List LfT)(p:LfT):ruleD N (l++ [p])=rulF N (ruleD N l) p:=by unfold ruleD;rw[List.foldl_append];rfl
def FirstW (N:List RN)(l:List LfT)(v:Int):Prop:=(v= -1∧∀p,p∈l→doneB N p.2=false)∨∃r:Nat,v=(r:Int)∧(∃p,p∈l∧p.1=r∧doneB N p.2=true)∧∀p,p∈l→doneB N p.2=true→r≤p.1
theorem FirstW.snoc {N:List RN}{l:List LfT}{v:Int}(h:FirstW N l v)(p:LfT):FirstW N (l++ [p]) (rulF N v p):=by
 unfold rulF
 cases hd:doneB N p.2 with
 | false=>
  rw[if_neg (by simp)]
  rcases h with⟨h1,h2⟩ | ⟨r,h1,⟨q,h2,h3,h4⟩,h5⟩
  ·refine .inl ⟨h1,fun q hq=> ?_⟩
   rcases List.mem_append.1 hq with e | e
   ·exact h2 q e
   ·rw[List.mem_singleton.1 e];exact hd
  ·refine .inr ⟨r,h1,⟨q,List.mem_append.2 (.inl h2),h3,h4⟩,fun x hx hy=> ?_⟩
   rcases List.mem_append.1 hx with e | e
   ·exact h5 x e hy
   ·rw[List.mem_singleton.1 e,hd]at hy;cases hy
 | true=>
  simp only[true_and]
  rcases h with⟨h1,h2⟩ | ⟨r,h1,⟨q,h2,h3,h4⟩,h5⟩
  ·rw[if_pos (.inl h1)]
   refine .inr ⟨p.1,rfl,⟨p,List.mem_append.2 (.inr List.mem_cons_self),rfl,hd⟩,fun x hx hy=> ?_⟩
   rcases List.mem_append.1 hx with e | e
   ·rw[h2 x e]at hy;cases hy
   ·rw[List.mem_singleton.1 e];exact Nat.le_refl _
  ·by_cases hlt:(p.1:Int)<v
   ·rw[if_pos (.inr hlt)]
    refine .inr ⟨p.1,rfl,⟨p,List.mem_append.2 (.inr List.mem_cons_self),rfl,hd⟩,fun x hx hy=> ?_⟩
    rcases List.mem_append.1 hx with e | e
    ·have:=h5 x e hy;omega
    ·rw[List.mem_singleton.1 e];exact Nat.le_refl _
   ·rw[if_neg (by omega)]
    refine .inr ⟨r,h1,⟨q,List.mem_append.2 (.inl h2),h3,h4⟩,fun x hx hy=> ?_⟩
    rcases List.mem_append.1 hx with e | e
    ·exact h5 x e hy
    ·rw[List.mem_singleton.1 e];omega
theorem firstW (N:List RN)(l:List LfT):FirstW N l (ruleD N l):=by
 have go:∀(m l:List LfT),FirstW N l (ruleD N l)→FirstW N (l++m) (ruleD N (l++m)):=by
  intro m
  induction m with
  | nil=>intro l h;rw[List.append_nil];exact h
  | cons p m ih=>
   intro l h
   have:=ih (l++ [p]) (by rw[rulF_snoc];exact h.snoc p)
   rw[List.append_assoc]at this
   exact this
 have:=go l [] (.inl ⟨rfl,fun p hp=>absurd hp List.not_mem_nil⟩)
 rw[List.nil_append]at this
 exact this
def equalB (a b:List LfT):Bool:=decide (a.length=b.length) && a.all (fun x=>holdsB b x)
theorem equalB_iff {a b:List LfT}(ha:a.Nodup)(hb:b.Nodup):equalB a b=true↔∀x,x∈a↔x∈b:=by
 unfold equalB
 rw[Bool.and_eq_true,decide_eq_true_eq,List.all_eq_true]
 constructor
 ·rintro⟨h1,h2⟩ x
  refine⟨fun hx=>holdsB_iff.1 (h2 x hx),fun hx=> ?_⟩
  apply Classical.byContradiction
  intro hn
  have:=nodup_len (l:=x::a) (S:=b) (by rw[List.nodup_cons];exact⟨hn,ha⟩) (fun y hy=>by
   rcases List.mem_cons.1 hy with e | e
   ·rw[e];exact hx
   ·exact holdsB_iff.1 (h2 y e))
  rw[List.length_cons]at this
  omega
 ·intro h
  refine⟨?_,fun x hx=>holdsB_iff.2 ((h x).1 hx)⟩
  have h1:=nodup_len ha (fun x hx=>(h x).1 hx)
  have h2:=nodup_len hb (fun x hx=>(h x).2 hx)
  omega
def twinB (N:List RN)(a b:Nat):Bool:=N.all (fun x=>x.k !=0 || x.f a==x.f b)
theorem twinB_at {N:List RN}{a b:Nat}(h:twinB N a b=true){n:Nat}{x:RN}(hx:N[n]? =some x)(hk:x.k=0):x.f a=x.f b:=by
 unfold twinB at h
 rw[List.all_eq_true]at h
 have:=h x (List.mem_of_getElem? hx)
 rw[hk]at this
 simpa using this
theorem twin_bD {N:List RN}(hc:ClosedN N){a b:Nat}(h:twinB N a b=true):∀n,bD N a n=bD N b n:=by
 intro n
 induction n using Nat.strongRecOn with
 | ind n ih=>
  cases hx:N[n]? with
  | none=>unfold bD behD;rw[hx]
  | some x=>
   have hm:∀m,m∈x.l→bD N a m=bD N b m:=fun m hm=>ih m (hc n x hx m hm)
   rw[bD_eq hc hx,bD_eq hc hx,rowD_congr x.l hm (fun _ _=>rfl),fm_congr x.l hm]
   by_cases hk:x.k=0
   ·rw[if_pos hk,if_pos hk,twinB_at h hx hk]
   ·rw[if_neg hk,if_neg hk]
    cases hl:x.l with
    | nil=>rfl
    | cons m l=>
     rw[hl]at hm
     simp only[hm m List.mem_cons_self]
theorem twin_step {N:List RN}(hc:ClosedN N){a b:Nat}(h:twinB N a b=true)(l:List LfT):stepD N a l=stepD N b l:=by
 have e:rowZ N a=rowZ N b:=by
  funext x
  unfold rowZ
  exact rowD_congr x (fun m _=>twin_bD hc h m) (fun _ _=>rfl)
 unfold stepD stepF
 rw[e]
end Go.Proofs.Ytgjgjgihceijnaa

namespace Go.Proofs.Ytgjgjgihceijnaa
open Go.RowKit Go.Stn
def ILp (w:World)(P:Nat→Prop)(v:Value)(ns:List Nat):Prop:=
 ∃a cap,v= .slice a ns.length cap∧ns.length≤cap∧(ns= []∨∃g o,a=some ⟨g,o,none⟩∧P g∧g<w.heap.size∧∀(i m:Nat),ns[i]? =some m→w.cell? ⟨g,o+i,none⟩=some (.int .i64 (m:Int)))
theorem ILp.il {w:World}{P:Nat→Prop}{v:Value}{ns:List Nat}(h:ILp w P v ns):IL w v ns:=by
 obtain⟨a,cap,e,hcp,h⟩:=h
 refine⟨a,cap,e,hcp, ?_⟩
 rcases h with h | ⟨g,o,h1,_,h2,h3⟩
 ·exact .inl h
 ·exact .inr ⟨g,o,h1,h2,h3⟩
theorem ILp.keep {w w':World}{P P':Nat→Prop}{v:Value}{ns:List Nat}(h:ILp w P v ns)(hz:w.heap.size≤w'.heap.size)(hB:∀k,P k→k<w.heap.size→w'.heap[k]? =w.heap[k]? ∧P' k):ILp w' P' v ns:=by
 obtain⟨a,cap,e,hcp,h⟩:=h
 refine⟨a,cap,e,hcp, ?_⟩
 rcases h with h | ⟨g,o,h1,h0,h2,h4⟩
 ·exact .inl h
 ·obtain⟨e1,e2⟩:=hB g h0 h2
  exact .inr ⟨g,o,h1,e2,by omega,fun i m hm=>(World.cell?_of_block (w:=w) (a:=⟨g,o+i,none⟩) e1).trans (h4 i m hm)⟩
def EKeep {α:Type}(E:World→(Nat→Prop)→List Value→α→Prop):Prop:=
 ∀(w w':World) (P P':Nat→Prop) (c:List Value) (x:α),E w P c x→w.heap.size≤w'.heap.size→(∀k,P k→k<w.heap.size→w'.heap[k]? =w.heap[k]? ∧P' k)→E w' P' c x
theorem flat_get {z:Nat}:∀{cs:List (List Value)} {j i:Nat} {c:List Value},(∀c,c∈cs→c.length=z)→cs[j]? =some c→i<z→cs.flatten[j*z+i]? =c[i]?
 | [],j,i,c,_,h,_=>by simp at h
 | d::cs,0,i,c,hl,h,hi=>by
  have e:d=c:=by simpa using h
  subst e
  rw[List.flatten_cons,Nat.zero_mul,Nat.zero_add,List.getElem?_append_left (by rw[hl d List.mem_cons_self];exact hi)]
 | d::cs,j+1,i,c,hl,h,hi=>by
  have hd:=hl d List.mem_cons_self
  have e:(j+1)*z+i=z+(j*z+i):=by rw[Nat.add_mul];omega
  rw[List.flatten_cons,e,List.getElem?_append_right (by omega),hd,Nat.add_sub_cancel_left]
  exact flat_get (fun c hc=>hl c (List.mem_cons_of_mem _ hc)) (by simpa using h) hi
def RowE {α:Type}(E:World→(Nat→Prop)→List Value→α→Prop)(T:TypeId)(z:Nat)(w:World)(B:Nat)(P:Nat→Prop)(v:Value)(xs:List α)(cs:List (List Value)):Prop:=
 w.ownsRow B T z v xs.length cs.flatten∧cs.length=xs.length∧(∀c,c∈cs→c.length=z)∧∀(j:Nat) (c:List Value) (x:α),cs[j]? =some c→xs[j]? =some x→E w P c x
section
variable {α:Type} {E:World→(Nat→Prop)→List Value→α→Prop} {T:TypeId} {z B:Nat} {w w':World} {P P':Nat→Prop} {v:Value} {xs:List α} {cs:List (List Value)}
theorem RowE.start (w:World)(B:Nat)(P:Nat→Prop):RowE E T z w B P (.slice none 0 0) [] []:=⟨World.ownsRow_nil w B T z,rfl,fun c hc=>absurd hc List.not_mem_nil,fun j c x h=>by simp at h⟩
theorem RowE.keep (hE:EKeep E)(h:RowE E T z w B P v xs cs)(hz:w.heap.size≤w'.heap.size)(ho:∀k,v.ownBlock=some k→w'.heap[k]? =w.heap[k]?)(hB:∀k,P k→k<w.heap.size→w'.heap[k]? =w.heap[k]? ∧P' k):RowE E T z w' B P' v xs cs:=
 ⟨row_top h.1 ho,h.2.1,h.2.2.1,fun j c x hc hx=>hE w w' P P' c x (h.2.2.2 j c x hc hx) hz hB⟩
theorem RowE.app (hE:EKeep E)(h:RowE E T z w B P v xs cs){w4:World}{o:Obj}{g cap n:Nat}{u:List Value}{x:α}(hn:xs.length=n)(hu:E w P u x)(hul:u.length=z)
  (hown:w4.ownsRow B T z (.slice (some ⟨g,0,none⟩) (n+1) cap) (n+1) (cs.flatten++u)) (hgr:(w.alloc o).grownBy w4 v.ownBlock)
  (hP:∀k,P k→k<w.heap.size→v.ownBlock≠some k∧P' k):RowE E T z w4 B P' (.slice (some ⟨g,0,none⟩) (n+1) cap) (xs++ [x]) (cs++ [u]):=by
 subst hn
 have hsz:=hgr.size
 have ez:(w.alloc o).heap.size=w.heap.size+1:=by simp
 have keep:∀k,P k→k<w.heap.size→w4.heap[k]? =w.heap[k]? ∧P' k:=fun k hp hk=>by
  obtain⟨h1,h2⟩:=hP k hp hk
  exact⟨(hgr.block k (by omega) (fun e=>h1 e.symm)).trans (Below.heap_alloc w o k hk),h2⟩
 have hl:=h.2.1
 refine⟨by rw[List.length_append,List.length_singleton,List.flatten_append,List.flatten_singleton];exact hown,by simp[hl],fun c hc=> ?_,fun j c y hc hy=> ?_⟩
 ·rcases List.mem_append.1 hc with e | e
  ·exact h.2.2.1 c e
  ·rw[List.mem_singleton.1 e];exact hul
 ·by_cases hj:j<cs.length
  ·rw[List.getElem?_append_left hj]at hc
   rw[List.getElem?_append_left (by omega)]at hy
   exact hE w w4 P P' c y (h.2.2.2 j c y hc hy) (by omega) keep
  ·have hlt:=(List.getElem?_eq_some_iff.1 hc).1
   rw[List.length_append,List.length_singleton]at hlt
   have e:j=cs.length:=by omega
   subst e
   rw[List.getElem?_append_right (Nat.le_refl _),Nat.sub_self]at hc
   rw[hl,List.getElem?_append_right (Nat.le_refl _),Nat.sub_self]at hy
   have ea:u=c:=by simpa using hc
   have eb:x=y:=by simpa using hy
   subst ea eb
   exact hE w w4 P P' u x hu (by omega) keep
theorem RowE.at (h:RowE E T z w B P v xs cs){j:Nat}{x:α}(hx:xs[j]? =some x):∃(g cap:Nat) (c:List Value),v= .slice (some ⟨g,0,none⟩) xs.length cap∧B≤g∧g<w.heap.size∧E w P c x∧c.length=z∧∀(i:Nat) (u:Value),c[i]? =some u→w.cell? ⟨g,j*z+i,none⟩=some u:=by
 obtain⟨a,cap,e⟩:=rowSlice h.1
 have hlt:=(List.getElem?_eq_some_iff.1 hx).1
 have hj:j<cs.length:=by rw[h.2.1];exact hlt
 have hc:=List.getElem?_eq_getElem hj
 rcases ownsRow_shape h.1 with e2 | ⟨g,c2,e2⟩
 ·rw[e]at e2
  injection e2 with _ e3 _
  omega
 ·have hb:=h.1.lt g (by rw[e2];rfl)
  rw[e]at e2
  injection e2 with e3 _ _
  refine⟨g,cap,_,by rw[e,e3],hb.1,hb.2,h.2.2.2 j _ x hc hx,h.2.2.1 _ (List.mem_of_getElem? hc),fun i u hu=> ?_⟩
  have hi:i<z:=by
   have:=(List.getElem?_eq_some_iff.1 hu).1
   rw[h.2.2.1 _ (List.mem_of_getElem? hc)]at this
   exact this
  have:=h.1.cells (g:=g) (by rw[e,e3];rfl) (j*z+i) u ((flat_get h.2.2.1 hc hi).trans hu)
  rw[add_at,Nat.zero_add]at this
  exact this
end
def ELeft (w:World)(P:Nat→Prop)(c:List Value)(x:LfT):Prop:=∃u,c= [.int .i64 (x.1:Int),u]∧ILp w P u x.2
theorem ELeft.keeps:EKeep ELeft:=fun _ _ _ _ _ _ ⟨u,h1,h2⟩ hz hB=>⟨u,h1,h2.keep hz hB⟩
def LFp (w:World)(P:Nat→Prop)(v:Value)(ls:List LfT):Prop:=
 ∃a cap,v= .slice a ls.length cap∧(ls= []∨∃g,a=some ⟨g,0,none⟩∧P g∧g<w.heap.size∧∀(k:Nat) (x:LfT),ls[k]? =some x→∃u,w.rangeAt g (k*2) [.int .i64 (x.1:Int),u]∧ILp w P u x.2)
theorem LFp.keep {w w':World}{P P':Nat→Prop}{v:Value}{ls:List LfT}(h:LFp w P v ls)(hz:w.heap.size≤w'.heap.size)(hB:∀k,P k→k<w.heap.size→w'.heap[k]? =w.heap[k]? ∧P' k):LFp w' P' v ls:=by
 obtain⟨a,cap,e,h⟩:=h
 refine⟨a,cap,e, ?_⟩
 rcases h with h | ⟨g,h1,h2,h3,h4⟩
 ·exact .inl h
 ·obtain⟨e1,e2⟩:=hB g h2 h3
  refine .inr ⟨g,h1,e2,by omega,fun k x hx=> ?_⟩
  obtain⟨u,h5,h6⟩:=h4 k x hx
  exact⟨u,fun i y hy=>(World.cell?_of_block (w:=w) (a:=⟨g,k*2+i,none⟩) e1).trans (h5 i y hy),h6.keep hz hB⟩
theorem LFp.below {w w':World}{P:Nat→Prop}{v:Value}{ls:List LfT}(h:LFp w P v ls)(hB:Below w.heap.size w w'):LFp w' P v ls:=h.keep hB.size (fun k hp hk=>⟨hB.block k hk,hp⟩)
theorem LFp.mono {w:World}{P P':Nat→Prop}{v:Value}{ls:List LfT}(h:LFp w P v ls)(hp:∀k,P k→k<w.heap.size→P' k):LFp w P' v ls:=h.keep (Nat.le_refl _) (fun k h1 h2=>⟨rfl,hp k h1 h2⟩)
theorem RowE.lf {w:World}{B:Nat}{P P':Nat→Prop}{v:Value}{ls:List LfT}{cs:List (List Value)}(h:RowE ELeft 235 2 w B P v ls cs)(hp:∀k,P k→k<w.heap.size→P' k)(ho:∀k,B≤k→v.ownBlock=some k→P' k):LFp w P' v ls:=by
 obtain⟨a,cap,e⟩:=rowSlice h.1
 refine⟨a,cap,e, ?_⟩
 cases hl:ls with
 | nil=>exact .inl rfl
 | cons y l=>
  right
  obtain⟨g,cap',_,e2,hb,hz,_⟩:=h.at (j:=0) (x:=y) (by rw[hl];rfl)
  rw[e]at e2
  injection e2 with e3 _ _
  refine⟨g,e3,ho g hb (by rw[e,e3];rfl),hz,fun k x hx=> ?_⟩
  rw[←hl]at hx
  obtain⟨g2,cap2,c,e4,_,_,⟨u,hc,hu⟩,_,hcell⟩:=h.at hx
  rw[e,e3]at e4
  injection e4 with e5 _ _
  have e6:g=g2:=by injection e5 with e5;injection e5
  subst e6
  refine⟨u,fun i y hy=>hcell i y (by rw[hc];exact hy),hu.keep (Nat.le_refl _) (fun k h1 h2=>⟨rfl,hp k h1 h2⟩)⟩
structure GR {α:Type}(E:World→(Nat→Prop)→List Value→α→Prop)(T:TypeId)(z:Nat)(w w1:World)(v1:Value)(wr:World)(v:Value)(xs:List α)(cs:List (List Value)):Prop where
 ro:RowE E T z wr w.heap.size (fun g=>w.heap.size≤g∧v.ownBlock≠some g) v xs cs
 gr:w1.grownBy wr v1.ownBlock
 ow:∀g,v.ownBlock=some g→v1.ownBlock=some g∨w1.heap.size≤g
 bl:Below w.heap.size w wr
section
variable {α:Type} {E:World→(Nat→Prop)→List Value→α→Prop} {T:TypeId} {z:Nat} {w w1 wr:World} {v1 v:Value} {xs:List α} {cs:List (List Value)}
theorem GR.start (E:World→(Nat→Prop)→List Value→α→Prop)(T:TypeId)(z:Nat)(w:World):GR E T z w w (.slice none 0 0) w (.slice none 0 0) [] []:=⟨RowE.start w _ _,⟨rfl,rfl,rfl,Nat.le_refl _,fun _ _ _=>rfl⟩,fun g e=>(by cases e),Below.refl _ _⟩
theorem GR.from (h:GR E T z w w1 v1 wr v xs cs):GR E T z w wr v wr v xs cs:=⟨h.ro,⟨rfl,rfl,rfl,Nat.le_refl _,fun _ _ _=>rfl⟩,fun _ e=> .inl e,h.bl⟩
theorem GR.below (hE:EKeep E){w':World}(h:GR E T z w w1 v1 wr v xs cs)(hB:Below wr.heap.size wr w'):GR E T z w w1 v1 w' v xs cs:=by
 have hz:=h.gr.size
 have hz2:=h.bl.size
 have hz3:=hB.size
 exact⟨h.ro.keep hE hB.size (fun k hk=>hB.block k (h.ro.1.lt k hk).2) (fun k hp hk=>⟨hB.block k hk,hp⟩),⟨hB.os.trans h.gr.os,hB.tape.trans h.gr.tape,hB.output.trans h.gr.output,by omega,fun k hk hne=>(hB.block k (by omega)).trans (h.gr.block k hk hne)⟩,h.ow,⟨hB.os.trans h.bl.os,hB.tape.trans h.bl.tape,hB.output.trans h.bl.output,by omega,fun k hk=>(hB.block k (by omega)).trans (h.bl.block k hk)⟩⟩
theorem GR.app (hE:EKeep E)(h:GR E T z w w1 v1 wr v xs cs){w4:World}{o:Obj}{g cap n:Nat}{u:List Value}{x:α}(hn:xs.length=n)(hu:E wr (fun g=>w.heap.size≤g∧v.ownBlock≠some g) u x)(hul:u.length=z)
  (hown:w4.ownsRow w.heap.size T z (.slice (some ⟨g,0,none⟩) (n+1) cap) (n+1) (cs.flatten++u)) (hgr:(wr.alloc o).grownBy w4 v.ownBlock) (hat:v.ownBlock=some g∨g=wr.heap.size+1):
  GR E T z w w1 v1 w4 (.slice (some ⟨g,0,none⟩) (n+1) cap) (xs++ [x]) (cs++ [u]):=by
 have hsz:=hgr.size
 have ez:(wr.alloc o).heap.size=wr.heap.size+1:=by simp
 have hz:=h.gr.size
 have hz2:=h.bl.size
 refine⟨h.ro.app hE hn hu hul hown hgr (fun k hp hk=>⟨hp.2,hp.1,fun e=> ?_⟩),⟨hgr.os.trans h.gr.os,hgr.tape.trans h.gr.tape,hgr.output.trans h.gr.output,by omega,fun k hk hne=> ?_⟩,fun k e=> ?_,⟨hgr.os.trans h.bl.os,hgr.tape.trans h.bl.tape,hgr.output.trans h.bl.output,by omega,fun k hk=> ?_⟩⟩
 ·have e:g=k:=by simpa[Value.ownBlock]using e
  subst e
  rcases hat with e1 | e1
  ·exact hp.2 e1
  ·omega
 ·refine((hgr.block k (by omega) (fun e=> ?_)).trans (Below.heap_alloc wr o k (by omega))).trans (h.gr.block k hk hne)
  rcases h.ow k e.symm with e1 | e1
  ·exact hne e1.symm
  ·omega
 ·have e:g=k:=by simpa[Value.ownBlock]using e
  subst e
  rcases hat with e1 | e1
  ·exact h.ow g e1
  ·right;omega
 ·exact((hgr.block k (by omega) (fun e=>by have:=(h.ro.1.lt k e.symm).1;omega)).trans (Below.heap_alloc wr o k (by omega))).trans (h.bl.block k hk)
end
end Go.Proofs.Ytgjgjgihceijnaa

