/- The landed readers refuse with two errors alone. -/
import Derived.Test.YtpkmbhnikilihaaGreatDoorQr16
import Derived.Test.YtpkmbhnikilihaaGreatDoorCards
import Derived.Test.YtpkmbhnikilihaaGreatDoorTie
import Derived.OpenShut
import Derived.Deep.DeepHandedRow
import Derived.Lib.LaidU8
import Derived.Lay
import Derived.MakeChecks
import Derived.SizedLaws
import Derived.Deep.SlicePairs
import Derived.Lib.TrimUEq
set_option maxRecDepth 100000
set_option maxHeartbeats 4000000
namespace Go.Proofs.YtpkmbhnikilihaaGreatDoor
def Bad (x:Int):Prop:=x=2∨x=4
def Er {α:Type} (p:Rdr α):Prop:=∀ ts x,p ts=.error x→Bad x
theorem Vf {α:Type} : Er (Oy 2:Rdr α):=fun _ _ h=>.inl (Except.error.inj h).symm
theorem Qs {α:Type} : Er (Oy 4:Rdr α):=fun _ _ h=>.inr (Except.error.inj h).symm
theorem Xj {α:Type} (a:α):Er (Il a):=fun _ _ h=>by cases h
theorem Vz {α β:Type} {p:Rdr α} {q:α→Rdr β} (hp:Er p) (hq:∀ a,Er (q a)):Er (Zk p q):=fun ts x h=>by
 unfold Zk at h
 cases hz:p ts with
 | error y=>rw [hz] at h;have:=Except.error.inj h;subst this;exact hp _ _ hz
 | ok z=>obtain ⟨a,r⟩:=z;rw [hz] at h;exact hq a _ _ h
theorem Gi {α:Type} {k:Int} {s:ByteArray} {p q:Rdr α} (hp:Er p) (hq:Er q):Er (ifR k s p q):=fun ts x h=>by
 unfold ifR at h
 split at h
 · exact hp _ _ h
 · exact hq _ _ h
theorem Yia {α:Type} {b:List Tok→Bool} {p q:Rdr α} (hp:Er p) (hq:Er q):Er (Tb b p q):=fun ts x h=>by
 unfold Tb at h
 split at h
 · exact hp _ _ h
 · exact hq _ _ h
theorem Zzt {α:Type} {p:ByteArray→Rdr α} {q:Rdr α} (hp:∀ n,Er (p n)) (hq:Er q):Er (nmR p q):=fun ts x h=>by
 unfold nmR at h
 cases hz:Zb ts with
 | none=>rw [hz] at h;exact hq _ _ h
 | some z=>obtain ⟨n,r⟩:=z;rw [hz] at h;exact hp n _ _ h
theorem Ykw {α:Type} {P:Prop} [Decidable P] {p q:Rdr α} (hp:Er p) (hq:Er q):Er (if P then p else q):=by split;exact hp;exact hq
theorem Yi5:Er Zqa:=fun ts x h=>by
 cases ts with
 | nil=>exact .inl (Except.error.inj h).symm
 | cons t r =>
   unfold Zqa at h
   simp only at h
   cases hs:Zo t with
   | none=>rw [hs] at h;exact .inl (Except.error.inj h).symm
   | some q=>rw [hs] at h;cases h
def ErN {α:Type} (n:Nat) (p:Rdr α):Prop:=∀ ts x,ts.length≤n→p ts=.error x→Bad x
theorem Ea {α:Type} {n:Nat} {k:Int} {s:ByteArray} {p q:Rdr α} (hp:∀ m,m < n→ErN m p) (hq:ErN n q):ErN n (ifR k s p q):=fun ts x hl h=>by
 unfold ifR at h
 split at h
 · rename_i ha
   exact hp ts.tail.length (by have:=(Zf ha).2;omega) _ _ (Nat.le_refl _) h
 · exact hq _ _ hl h
theorem Q7 {α β:Type} {n:Nat} {p:Rdr α} {q:α→Rdr β} (sp:Str p) (hp:ErN n p) (hq:∀ a m,m < n→ErN m (q a)):ErN n (Zk p q):=fun ts x hl h=>by
 unfold Zk at h
 cases hz:p ts with
 | error y=>rw [hz] at h;have:=Except.error.inj h;subst this;exact hp _ _ hl hz
 | ok z =>
   obtain ⟨a,r⟩:=z
   rw [hz] at h
   exact hq a r.length (by have:=(sp _ _ _ hz).2;omega) _ _ (Nat.le_refl _) h
theorem Ek {α β:Type} {n:Nat} {p:Rdr α} {q:α→Rdr β} (hp:ErN n p) (hq:∀ a,Er (q a)):ErN n (Zk p q):=fun ts x hl h=>by
 unfold Zk at h
 cases hz:p ts with
 | error y=>rw [hz] at h;have:=Except.error.inj h;subst this;exact hp _ _ hl hz
 | ok z=>obtain ⟨a,r⟩:=z;rw [hz] at h;exact hq a _ _ h
theorem P0 {α:Type} {n:Nat} {p:ByteArray→Rdr α} {q:Rdr α} (hp:∀ s m,m < n→ErN m (p s)) (hq:ErN n q):ErN n (nmR p q):=fun ts x hl h=>by
 unfold nmR at h
 cases hz:Zb ts with
 | none=>rw [hz] at h;exact hq _ _ hl h
 | some z=>obtain ⟨s,r⟩:=z;rw [hz] at h;exact hp s r.length (by have:=(Zc hz).2;omega) _ _ (Nat.le_refl _) h
theorem Vu {α:Type} {n:Nat} {p:Rdr α} (h:Er p):ErN n p:=fun ts x _ e=>h ts x e
theorem Zx5 {α:Type} {p:Rdr α} (h:∀ n,ErN n p):Er p:=fun ts x e=>h ts.length ts x (Nat.le_refl _) e
theorem Qx {α:Type} {n:Nat} {P:Prop} [Decidable P] {p q:Rdr α} (hp:ErN n p) (hq:ErN n q):ErN n (if P then p else q):=by split;exact hp;exact hq
theorem Ydj:∀ n,(∀ fx d,ErN n (Uq fx d))∧(∀ fx d acc,ErN n (Gr fx d acc))∧(∀ fx d acc,ErN n (Ml fx d acc))∧(∀ fx d,ErN n (Cy fx d)):=by
 intro n
 induction n using Nat.strongRecOn with
 | ind n ih =>
   have hv:∀ fx d,ErN n (Uq fx d):=by
     intro fx d
     rw [Ww]
     refine Ea (fun m hm=>Qx (Vu Qs) (Ek ((ih m hm).2.1 _ _ _) fun _=>Xj _)) ?_
     refine Ea (fun m hm=>Qx (Vu Qs) (Ek ((ih m hm).2.2.1 _ _ _) fun _=>Xj _)) ?_
     exact Vu (Ykw Yi5 (Gi (Zzt (fun _=>Xj _) Vf) Yi5))
   have hm:∀ fx d,ErN n (Cy fx d):=by
     intro fx d
     rw [Yda]
     exact P0 (fun _ k hk=>Ea (fun m hm=>Ek ((ih m (by omega)).1 _ _) fun _=>Xj _) (Vu Vf)) (Vu Vf)
   refine ⟨hv,fun fx d acc=>?_,fun fx d acc=>?_,hm⟩
   · rw [Dv]
     exact Ea (fun _ _=>Vu (Xj _)) (Q7 (Yl6 _ _) (hv _ _) fun _ m hm=>(ih m hm).2.1 _ _ _)
   · rw [Qb]
     exact Ea (fun _ _=>Vu (Xj _)) (Q7 (Pl _ _) (hm _ _) fun _ m hm=>(ih m hm).2.2.1 _ _ _)
theorem Yhm (fx:Bool) (d:Nat):Er (Uq fx d):=Zx5 fun n=>(Ydj n).1 fx d
theorem Ymq (fx:Bool) (d:Nat):Er (Cy fx d):=Zx5 fun n=>(Ydj n).2.2.2 fx d
theorem Zj8 {α ρ:Type} {one:Rdr α} {add:ρ→α→ρ} {e:ByteArray} (H:Str one):∀ n,ErN n one→∀ acc,ErN n (Ydm one add e acc):=by
 intro n
 induction n using Nat.strongRecOn with
 | ind n ih =>
   intro ho acc
   rw [Yab H]
   exact Q7 H ho fun _ m hm=>Ea (fun _ _=>Vu (Xj _)) (ih m hm (fun ts x hl h=>ho ts x (by omega) h) _)
theorem Ycw (fx:Bool) (d:Nat):Er (Ym fx d):=by
 rw [Pj];exact Gi (Zx5 fun n=>Zj8 (Pl _ _) n (Vu (Ymq _ _)) _) (Xj _)
theorem Aq (fx:Bool) (d:Nat):Er (Zp fx d):=by
 have : ∀ n acc,ErN n (Py fx d acc):=by
  intro n
  induction n using Nat.strongRecOn with
  | ind n ih =>
    intro acc
    rw [Pq]
    refine Ea (fun m hm=>P0 (fun _ k hk=>?_) (Vu Vf)) (Vu (Xj _))
    intro ts x hl h
    unfold Zk at h
    cases hz:Ym fx d ts with
    | error y=>rw [hz] at h;have:=Except.error.inj h;subst this;exact Ycw _ _ _ _ hz
    | ok z =>
      obtain ⟨a,r⟩:=z
      rw [hz] at h
      exact ih r.length (by have:=(Jk hz).length_le;omega) _ _ _ (Nat.le_refl _) h
 exact Zx5 fun n=>this n []
theorem Yi9:∀ left,Er (Zl left)
 | 0=>by rw [Co];exact Gi Qs (Zzt (fun _=>Gi (Xj _) (Xj _)) Vf)
 | left+1=>by
   rw [Df]
   exact Gi (Vz (Yi9 left) fun _=>Gi (Gi (Xj _) (Xj _)) Vf) (Zzt (fun _=>Gi (Xj _) (Xj _)) Vf)
theorem Ms {S:Ul} {n:Nat} (hS:ErN n S) (d:Nat) (o:ByteArray):ErN n (Yl S d o):=by
 rw [Na]
 intro ts x hl h
 unfold Zk at h
 cases hz:Zp false d ts with
 | error y=>rw [hz] at h;have:=Except.error.inj h;subst this;exact Aq _ _ _ _ hz
 | ok z =>
   obtain ⟨a,r⟩:=z
   rw [hz] at h
   exact Ek (q:=fun s=>Il (Wi.mk 2 eB eB .nil a o s)) hS (fun _=>Xj _) r x (by have:=(Yj hz).length_le;omega) h
theorem Zka {S:Ul} {n:Nat} (hS:ErN n S) (d:Nat) (al nm:ByteArray):ErN n (Ua S d al nm):=by
 rw [Q3]
 intro ts x hl h
 unfold Zk at h
 cases hz:Ym false d ts with
 | error y=>rw [hz] at h;have:=Except.error.inj h;subst this;exact Ycw _ _ _ _ hz
 | ok z =>
   obtain ⟨g,r0⟩:=z
   rw [hz] at h
   simp only at h
   have h0:=(Jk hz).length_le
   cases hd:Zp false d r0 with
   | error y=>rw [hd] at h;have:=Except.error.inj h;subst this;exact Aq _ _ _ _ hd
   | ok z =>
     obtain ⟨a,r⟩:=z
     rw [hd] at h
     have h1:=(Yj hd).length_le
     simp only at h
     unfold Tb at h
     split at h
     · exact Ek (q:=fun s=>Il (Wi.mk 0 al nm g a eB s)) hS (fun _=>Xj _) r x (by omega) h
     · cases h
theorem Yl4 {S:Ul} {n:Nat} (hS:∀ m,m < n→ErN m S) (d:Nat):ErN n (Jo S d):=by
 rw [Fm]
 refine Ea (fun m hm=>?_) ?_
 · rw [Gf]
   exact Ea (fun k hk=>P0 (fun _ j hj=>Ms (hS j (by omega)) d _) (Vu Vf)) (P0 (fun _ j _=>Vu (Vz (Aq _ _) fun _=>Xj _)) (Ms (hS m hm) d _))
 · rw [Bs]
   exact P0 (fun _ k hk=>Ea (fun j hj=>P0 (fun _ i hi=>Zka (hS i (by omega)) _ _ _) (Vu Vf)) (Zka (hS k hk) _ _ _)) (Vu Vf)
theorem Yhe:∀ n d,ErN n (X8 d):=by
 intro n
 induction n using Nat.strongRecOn with
 | ind n ih =>
   intro d
   rw [Zjh]
   refine Ea (fun m hm=>Qx (Vu Qs) (Zj8 (Dm _) m ?_ _)) (Vu Vf)
   rw [Gx]
   exact Yl4 (fun k hk=>ih k (by omega) _) _
theorem Zzr (d:Nat):Er (X8 d):=Zx5 fun n=>Yhe n d
theorem Ym3 (d:Nat):Er (Gs d):=by
 rw [Zj3]
 exact Gi (Zzt (fun _=>Gi (Vz (Yi9 _) fun _=>Gi (Vz (Yhm _ _) fun _=>Xj _) (Xj _)) Vf) Vf) Vf
theorem Yj4 (d:Nat):Er (Jj d):=by
 rw [Q5];exact Gi (Zx5 fun n=>Zj8 (Zzk _) n (Vu (Ym3 _)) _) (Xj _)
theorem Sd (k:Int) (d:Nat) (nm:ByteArray):Er (Jt k d nm):=by
 rw [Tl];exact Vz (Yj4 _) fun _=>Vz (Aq _ _) fun _=>Vz (Zzr _) fun _=>Xj _
theorem Yll (k:Int) (d:Nat):Er (opR k d):=by rw [Zyx];exact Zzt (fun _=>Sd _ _ _) (Sd _ _ _)
theorem Yky (d:Nat):Er (Ud d):=by
 rw [Zjs]
 exact Yia Vf (Zzt (fun _=>Gi (Zzt (fun _=>Vz (Aq _ _) fun _=>Vz (Zzr _) fun _=>Xj _) Vf) Vf) Vf)
theorem Yit:Er Be:=Yia (Vz (Zzr _) fun _=>Xj _) (Gi (Vz (Yll _ _) fun _=>Xj _) (Gi (Vz (Yll _ _) fun _=>Xj _) (Gi (Vz (Yky _) fun _=>Xj _) Vf)))
theorem Ybs:∀ f ts x,Sm f ts=.error x→Bad x
 | 0,_,_,h=>.inl (Except.error.inj h).symm
 | f + 1,ts,x,h=>by
   rw [Sm] at h
   cases ho:Be ts with
   | error y=>rw [ho] at h;have:=Except.error.inj h;subst this;exact Yit _ _ ho
   | ok q =>
     obtain ⟨a,r⟩:=q
     rw [ho] at h
     simp only at h
     split at h
     · cases h
     · cases hd:Sm f r with
       | error y=>rw [hd] at h;have:=Except.error.inj h;subst this;exact Ybs f r _ hd
       | ok l=>rw [hd] at h;cases h
theorem Yk3 {ts:List Tok} {x:Int} (h:Mc ts=.error x):Bad x:=by
 rw [Yjt] at h
 cases hd:Yli ts with
 | error y=>rw [hd] at h;have:=Except.error.inj h;subst this;exact Ybs _ _ _ hd
 | ok l=>rw [hd] at h;cases h
open Go.RowKit
theorem Ygo (ts:List Tok) (x:Int) (h:Ll ts=.error x):Bad x:=by
 unfold Ll at h
 cases hd:Mc ts with
 | error y=>rw [hd] at h;have:=Except.error.inj h;subst this;exact Yk3 hd
 | ok D=>rw [hd] at h;cases h
theorem Ykl {fx:Bool} (ts:List Tok) (x:Int) (h:Uq fx 0 ts=.error x):Bad x:=Yhm fx 0 ts x h
def Res {α:Type} (enc:α→TrS) (zero:List Value) (w w':World) (R:Except Int α) (x:Int) (cs:List Value):Prop:=
 match R with
 | .ok a=>x=0∧TS w' (Zs w w') (enc a) cs
 | .error y=>x=y∧y ≠ 0∧cs=zero
theorem Yhs {α:Type} {enc:α→TrS} {zero cs:List Value} {w0 w w' W:World} {R:Except Int α} {x:Int} (h:Res enc zero w w' R x cs) (hw:w0.heap.size≤w.heap.size) (hs:w'.heap.size≤W.heap.size) (hk:∀ k,w.heap.size≤k→k < w'.heap.size→W.heap[k]? = w'.heap[k]?):Res enc zero w0 W R x cs:=by
 cases R with
 | error y=>exact h
 | ok a=>exact ⟨h.1,TS.keep (fun k hk'=>⟨⟨Nat.le_trans hw hk'.1,Nat.lt_of_lt_of_le hk'.2 hs⟩,hk k hk'.1 hk'.2⟩) _ _ h.2⟩
theorem Qe {R:Ending→World→Prop} {fn:Func} {a:Act} {W:World} {cs:List Value} {ty:TypeId} {p q b:Nat} {v:Value} {ds:TypeDesc} (hf:fn.results=#[.cell p ty,.tmp q]) (h2:a.tmps.getD p undef=.pointer (some ⟨b,0,none⟩)) (h3:a.tmps.getD q undef=v) (hd:a.defers=[])
  (hc:W.heap[b]? = some (.cells cs.toArray ty (0,0))) (hu:Tryz.prog.underlying ty=some ds) (hs:∃ fs,ds=.struct fs) (hi:(Tryz.prog.info? ty).map (·.size)=some cs.length) (hR:R (.returned (.tuple #[.agg cs.toArray,v])) W):bodyPost Tryz.prog fn R .ret a W:=by
 obtain ⟨fs,rfl⟩:=hs
 have hl:(loadVar ty ⟨b,0,none⟩).run Tryz.prog W=.ok (.agg cs.toArray) W:=run_loadVar_row W b ty ty cs.toArray (0,0) _ hc hu rfl (by rw [hi];simp)
 refine bodyPost_ret ?_ hd hR
 have h2':a.tmps[p]?.getD undef=.pointer (some ⟨b,0,none⟩):=by rw [← h2];simp
 have h3':a.tmps[q]?.getD undef=v:=by rw [← h3];simp
 simp [results,hf,h2',h3',asAddr,hl]
theorem Q8 (fx:Bool) (bx d:Nat) (ts:List Tok) (r:Nat) (w:World) (hG:Xb ts) (hd:d≤16) (hR:Rd w r ts d) (hK:KRd r w) (hX:w.heap[bx]? = some (.cells #[.bool fx] 4 (0,0))):Calls Tryz.prog 48 #[.pointer (some ⟨r,0,none⟩),.pointer (some ⟨bx,0,none⟩)] w (L8 r d w (Gt Lm) (Uq fx d ts)):=by
 refine cQE (fun Q hQ=>?_)
 have HQ:=Hd hQ
 have K0:=Hd (S0.start hR hK #[.int .i64 0,.int .i64 0,.string ⟨#[]⟩,.slice none 0 0,.slice none 0 0] 35)
 obtain ⟨q0,_⟩:=Ys ((blw w (.cells #[.int .i64 0,.int .i64 0,.string ⟨#[]⟩,.slice none 0 0,.slice none 0 0] 35)).block bx (Array.getElem?_eq_some_iff.1 hX).1 |>.trans hX)
 have HG:=Hd hG
 clear hQ hR hK hX hG
 go_enter Tryz.func48,Tryz.ntmps48
 go_wp2_with fail
 refine (Zkh fx d ts r _ HG.out hd K0.out.rd K0.out.k).mono ?_
 intro e w1 h
 cases hv:Uq fx d ts with
 | error x =>
   rw [hv] at h
   obtain ⟨rfl,m⟩:=Yr h
   exact ⟨rfl,HQ.out _ _ (per hv (K0.out.mv.trans m))⟩
 | ok p =>
   obtain ⟨a,ts1⟩:=p
   rw [hv] at h
   obtain ⟨⟨v,rfl,hl⟩,r1,m1⟩:=Jh h
   obtain ⟨vk,vn,vs,A3,n3,k3,A4,n4,k4,rfl,hts⟩:=W4 hl
   have K1:=Hd (K0.out.next r1 m1)
   have T1:=Hd (OvS.of hts K0.out.lt)
   obtain ⟨y0,y1,y2,y3,y4,yz⟩:=Yu K1.out.res
   have z0:=yz 0
   have z1:=yz 1
   have z2:=yz 2
   have z3:=yz 3
   have z4:=yz 4
   have HV:=Hd hv
   clear r1 m1 hl hts h hv q0 yz
   go_wp2_with fail
   obtain ⟨f1,f2,f3⟩:=S0.fin (ys:=[.int .i64 0,.int .i64 0,.string ⟨#[]⟩,.slice none 0 0,.slice none 0 0]) K1.out [.int .i64 vk,.int .i64 vn,.string vs,.slice A3 n3 k3,.slice A4 n4 k4] rfl
   have FT:=T1.out.fin (w:=w) (Nat.le_refl _) [.int .i64 vk,.int .i64 vn,.string vs,.slice A3 n3 k3,.slice A4 n4 k4]
   have FP:=HQ.out _ _ (X6 HV.out ⟨_,rfl,FT⟩ f2 f3)
   exact Y8 rfl rfl rfl f1 Tryz.underlying35 ⟨_,rfl⟩ (by kernel_rfl) FP
theorem Zyj (s:ByteArray) (w:World) (hs:s.size≤9000) (h3:Jw w) (h5:Uj w):Calls Tryz.prog 41 #[.string s,.func (.func 42) #[] #[]] w fun e w'=>∃ (A0:Option Addr) (n0 k0:Nat) (A1:Option Addr) (n1 k1:Nat) (x:Int),e=.returned (.tuple #[.agg #[.slice A0 n0 k0,.slice A1 n1 k1],.int .i64 x])∧Res J1 [.slice none 0 0,.slice none 0 0] w w' (Um Ll s.data.toList) x [.slice A0 n0 k0,.slice A1 n1 k1]∧Below w.heap.size w w':=by
 have hGD:=Cd hs
 have hl:=Bx hs
 unfold Um
 obtain ⟨⟨ts,x⟩,hr⟩:∃ p,Zq s.data.toList=p:=⟨_,rfl⟩
 rw [hr] at hGD hl ⊢
 replace hl:ts.length≤200000:=by have:ts.length≤9001:=hl;omega
 by_cases hx:x=0
 · subst hx
   rw [if_neg (by simp)]
   cases ht:Ll (Lj ts) with
   | error y =>
     refine (Yci s w hs h3 h5 ts hl _ (fun g wx hb hg hx hk=>Zqn (Lj ts) g wx hGD hx hk) hr y ht).mono ?_
     rintro e w' ⟨rfl,hb⟩
     exact ⟨none,0,0,none,0,0,y,rfl,⟨rfl,by rcases Ygo _ _ ht with e|e<;>omega,rfl⟩,hb⟩
   | ok p =>
     obtain ⟨a,r⟩:=p
     cases r with
     | nil =>
       refine (Zvs s w hs h3 h5 ts hl _ (fun g wx hb hg hx hk=>Zqn (Lj ts) g wx hGD hx hk) hr a ht).mono ?_
       rintro e w' ⟨cs,rfl,hts,hb⟩
       obtain ⟨A0,n0,k0,A1,n1,k1,e0,hts⟩:=Qo (show Gt J1 w' (Zs w w') a (.agg cs.toArray) from ⟨cs,rfl,hts⟩)
       injection e0 with e0
       have e0:cs=[.slice A0 n0 k0,.slice A1 n1 k1]:=by have:=congrArg Array.toList e0;simpa using this
       subst e0
       exact ⟨_,_,_,_,_,_,0,rfl,show Res J1 _ w w' (if ([]:List Tok)=[] then .ok a else .error 2) _ _ by rw [if_pos rfl];exact ⟨rfl,hts⟩,hb⟩
     | cons t ts2 =>
       refine (Zje s w hs h3 h5 ts hl _ (fun g wx hb hg hx hk=>Zqn (Lj ts) g wx hGD hx hk) hr a t ts2 ht).mono ?_
       rintro e w' ⟨rfl,hb⟩
       exact ⟨none,0,0,none,0,0,2,rfl,show Res J1 _ w w' (if t :: ts2=[] then .ok a else .error 2) _ _ by rw [if_neg (by simp)];exact ⟨rfl,by omega,rfl⟩,hb⟩
 · rw [if_pos hx]
   refine (Zxo s w hs h3 ts x hx hr).mono ?_
   rintro e w' ⟨rfl,hb⟩
   exact ⟨none,0,0,none,0,0,x,rfl,⟨rfl,hx,rfl⟩,hb⟩
theorem Au (s:ByteArray) (w:World) (hs:s.size≤9000) (h3:Jw w) (h5:Uj w):Calls Tryz.prog 14 #[.string s] w fun e w'=>∃ (A0:Option Addr) (n0 k0:Nat) (A1:Option Addr) (n1 k1:Nat) (x:Int),e=.returned (.tuple #[.agg #[.slice A0 n0 k0,.slice A1 n1 k1],.int .i64 x])∧Res J1 [.slice none 0 0,.slice none 0 0] w w' (Um Ll s.data.toList) x [.slice A0 n0 k0,.slice A1 n1 k1]∧Below w.heap.size w w':=by
 refine cQE (fun Q hQ=>?_)
 have HQ:=Hd hQ
 have hmf:∀ (fn:Fn) (first cap:Array Value) (w:World),(Instr.makeFunc fn first cap).run Tryz.prog w=.ok (.func fn first cap) w:=fun _ _ _ _=>rfl
 have B0:=Hd (blw w (.cells #[.slice none 0 0,.slice none 0 0] 26))
 have Y:=Hd (heap_alloc_last w (.cells #[.slice none 0 0,.slice none 0 0] 26))
 have hSZ:=Hd (show (w.alloc (.cells #[.slice none 0 0,.slice none 0 0] 26)).heap.size=w.heap.size+1 by simp)
 clear hQ
 go_enter Tryz.func14,Tryz.ntmps14
 go_wp2_with fail
 refine (Zyj s _ hs (h3.below B0.out) (h5.below B0.out)).mono ?_
 rintro e w2 ⟨A0,n0,k0,A1,n1,k1,x,rfl,hres,hb2⟩
 have hsz:=B0.out.size
 have Z:=Hd ((hb2.block (w.heap.size) (by simp)).trans Y.out)
 have B2:=Hd (B0.out.trans (hb2.mono hsz))
 have RS:=Hd hres
 have hs2:=hb2.size
 obtain ⟨j0,j1,kz⟩:=ptc Z.out
 have kf0:=kz 0
 have kf1:=kz 1
 clear kz hres
 go_wp2_with fail
 have f1:=Y9 (b:=w.heap.size) (t:=26) (ys:=[.slice none 0 0,.slice none 0 0]) (xs:=[.slice A0 n0 k0,.slice A1 n1 k1]) rfl Z.out
 have f3:=Yq (B:=w.heap.size) (b:=w.heap.size) (by omega) [.slice A0 n0 k0,.slice A1 n1 k1] 0 _ B2.out
 have hz:(setAll w2 (w.heap.size) 0 [.slice A0 n0 k0,.slice A1 n1 k1]).heap.size=w2.heap.size:=V8 _ _ _ _
 have hko:∀ k,(w.heap.size)+1≤k→k < w2.heap.size→(setAll w2 (w.heap.size) 0 [.slice A0 n0 k0,.slice A1 n1 k1]).heap[k]? = w2.heap[k]?:=fun k hk _=>Yb (by omega) _ _ _
 exact Qe rfl rfl rfl rfl f1 Tryz.underlying26 ⟨_,rfl⟩ (by kernel_rfl) (HQ.out _ _ ⟨A0,n0,k0,A1,n1,k1,x,rfl,Yhs RS.out hsz (Nat.le_of_eq hz.symm) (fun k hk hk2=>hko k (Nat.le_trans (Nat.le_of_eq hSZ.out.symm) hk) hk2),f3⟩)
theorem Zyg (s:ByteArray) (w:World) (fx:Bool) (bx:Nat) (hX:w.heap[bx]? = some (.cells #[.bool fx] 4 (0,0))) (hs:s.size≤9000) (h3:Jw w) (h5:Uj w):Calls Tryz.prog 47 #[.string s,.func (.func 48) #[] #[.pointer (some ⟨bx,0,none⟩)]] w fun e w'=>∃ (vk vn:Int) (vs:ByteArray) (A3:Option Addr) (n3 k3:Nat) (A4:Option Addr) (n4 k4:Nat) (x:Int),e=.returned (.tuple #[.agg #[.int .i64 vk,.int .i64 vn,.string vs,.slice A3 n3 k3,.slice A4 n4 k4],.int .i64 x])∧Res Lm [.int .i64 0,.int .i64 0,.string ⟨#[]⟩,.slice none 0 0,.slice none 0 0] w w' (Um (Uq fx 0) s.data.toList) x [.int .i64 vk,.int .i64 vn,.string vs,.slice A3 n3 k3,.slice A4 n4 k4]∧Below w.heap.size w w':=by
 have hGD:=Cd hs
 have hl:=Bx hs
 unfold Um
 obtain ⟨⟨ts,x⟩,hr⟩:∃ p,Zq s.data.toList=p:=⟨_,rfl⟩
 rw [hr] at hGD hl ⊢
 replace hl:ts.length≤200000:=by have:ts.length≤9001:=hl;omega
 by_cases hx:x=0
 · subst hx
   rw [if_neg (by simp)]
   cases ht:(Uq fx 0) (Lj ts) with
   | error y =>
     refine (Ybu bx s w hs h3 h5 ts hl _ (fun g wx hb hg hx hk=>Q8 fx bx 0 (Lj ts) g wx hGD (Nat.zero_le _) hx hk ((hb.block bx (Array.getElem?_eq_some_iff.1 hX).1).trans hX)) hr y ht).mono ?_
     rintro e w' ⟨rfl,hb⟩
     exact ⟨0,0,⟨#[]⟩,none,0,0,none,0,0,y,rfl,⟨rfl,by rcases Ykl _ _ ht with e|e<;>omega,rfl⟩,hb⟩
   | ok p =>
     obtain ⟨a,r⟩:=p
     cases r with
     | nil =>
       refine (Zv5 bx s w hs h3 h5 ts hl _ (fun g wx hb hg hx hk=>Q8 fx bx 0 (Lj ts) g wx hGD (Nat.zero_le _) hx hk ((hb.block bx (Array.getElem?_eq_some_iff.1 hX).1).trans hX)) hr a ht).mono ?_
       rintro e w' ⟨cs,rfl,hts,hb⟩
       obtain ⟨vk,vn,vs,A3,n3,k3,A4,n4,k4,e0,hts⟩:=W4 (show Gt Lm w' (Zs w w') a (.agg cs.toArray) from ⟨cs,rfl,hts⟩)
       injection e0 with e0
       have e0:cs=[.int .i64 vk,.int .i64 vn,.string vs,.slice A3 n3 k3,.slice A4 n4 k4]:=by have:=congrArg Array.toList e0;simpa using this
       subst e0
       exact ⟨_,_,_,_,_,_,_,_,_,0,rfl,show Res Lm _ w w' (if ([]:List Tok)=[] then .ok a else .error 2) _ _ by rw [if_pos rfl];exact ⟨rfl,hts⟩,hb⟩
     | cons t ts2 =>
       refine (Zze bx s w hs h3 h5 ts hl _ (fun g wx hb hg hx hk=>Q8 fx bx 0 (Lj ts) g wx hGD (Nat.zero_le _) hx hk ((hb.block bx (Array.getElem?_eq_some_iff.1 hX).1).trans hX)) hr a t ts2 ht).mono ?_
       rintro e w' ⟨rfl,hb⟩
       exact ⟨0,0,⟨#[]⟩,none,0,0,none,0,0,2,rfl,show Res Lm _ w w' (if t :: ts2=[] then .ok a else .error 2) _ _ by rw [if_neg (by simp)];exact ⟨rfl,by omega,rfl⟩,hb⟩
 · rw [if_pos hx]
   refine (Zyd bx s w hs h3 ts x hx hr).mono ?_
   rintro e w' ⟨rfl,hb⟩
   exact ⟨0,0,⟨#[]⟩,none,0,0,none,0,0,x,rfl,⟨rfl,hx,rfl⟩,hb⟩
theorem Nl (s:ByteArray) (fx:Bool) (w:World) (hs:s.size≤9000) (h3:Jw w) (h5:Uj w):Calls Tryz.prog 17 #[.string s,.bool fx] w fun e w'=>∃ (vk vn:Int) (vs:ByteArray) (A3:Option Addr) (n3 k3:Nat) (A4:Option Addr) (n4 k4:Nat) (x:Int),e=.returned (.tuple #[.agg #[.int .i64 vk,.int .i64 vn,.string vs,.slice A3 n3 k3,.slice A4 n4 k4],.int .i64 x])∧Res Lm [.int .i64 0,.int .i64 0,.string ⟨#[]⟩,.slice none 0 0,.slice none 0 0] w w' (Um (Uq fx 0) s.data.toList) x [.int .i64 vk,.int .i64 vn,.string vs,.slice A3 n3 k3,.slice A4 n4 k4]∧Below w.heap.size w w':=by
 refine cQE (fun Q hQ=>?_)
 have HQ:=Hd hQ
 have hmf:∀ (fn:Fn) (first cap:Array Value) (w:World),(Instr.makeFunc fn first cap).run Tryz.prog w=.ok (.func fn first cap) w:=fun _ _ _ _=>rfl
 have B0:=Hd (Xf w (.cells #[.bool fx] 4) (.cells #[.int .i64 0,.int .i64 0,.string ⟨#[]⟩,.slice none 0 0,.slice none 0 0] 35))
 have Y:=Hd (Jz w (.cells #[.bool fx] 4) (.cells #[.int .i64 0,.int .i64 0,.string ⟨#[]⟩,.slice none 0 0,.slice none 0 0] 35)).2
 have HB:=Hd (Jz w (.cells #[.bool fx] 4) (.cells #[.int .i64 0,.int .i64 0,.string ⟨#[]⟩,.slice none 0 0,.slice none 0 0] 35)).1
 have hSZ:=Hd (show ((w.alloc (.cells #[.bool fx] 4)).alloc (.cells #[.int .i64 0,.int .i64 0,.string ⟨#[]⟩,.slice none 0 0,.slice none 0 0] 35)).heap.size=w.heap.size+2 by simp)
 clear hQ
 go_enter Tryz.func17,Tryz.ntmps17
 go_wp2_with fail
 refine (Zyg s _ fx w.heap.size HB.out hs (h3.below B0.out) (h5.below B0.out)).mono ?_
 rintro e w2 ⟨vk,vn,vs,A3,n3,k3,A4,n4,k4,x,rfl,hres,hb2⟩
 have hsz:=B0.out.size
 have Z:=Hd ((hb2.block (w.heap.size+1) (by simp)).trans Y.out)
 have B2:=Hd (B0.out.trans (hb2.mono hsz))
 have RS:=Hd hres
 have hs2:=hb2.size
 obtain ⟨j0,j1,j2,j3,j4,kz⟩:=Yu Z.out
 have kf0:=kz 0
 have kf1:=kz 1
 have kf2:=kz 2
 have kf3:=kz 3
 have kf4:=kz 4
 clear kz hres
 go_wp2_with fail
 have f1:=Y9 (b:=w.heap.size+1) (t:=35) (ys:=[.int .i64 0,.int .i64 0,.string ⟨#[]⟩,.slice none 0 0,.slice none 0 0]) (xs:=[.int .i64 vk,.int .i64 vn,.string vs,.slice A3 n3 k3,.slice A4 n4 k4]) rfl Z.out
 have f3:=Yq (B:=w.heap.size) (b:=w.heap.size+1) (by omega) [.int .i64 vk,.int .i64 vn,.string vs,.slice A3 n3 k3,.slice A4 n4 k4] 0 _ B2.out
 have hz:(setAll w2 (w.heap.size+1) 0 [.int .i64 vk,.int .i64 vn,.string vs,.slice A3 n3 k3,.slice A4 n4 k4]).heap.size=w2.heap.size:=V8 _ _ _ _
 have hko:∀ k,(w.heap.size+1)+1≤k→k < w2.heap.size→(setAll w2 (w.heap.size+1) 0 [.int .i64 vk,.int .i64 vn,.string vs,.slice A3 n3 k3,.slice A4 n4 k4]).heap[k]? = w2.heap[k]?:=fun k hk _=>Yb (by omega) _ _ _
 exact Qe rfl rfl rfl rfl f1 Tryz.underlying35 ⟨_,rfl⟩ (by kernel_rfl) (HQ.out _ _ ⟨vk,vn,vs,A3,n3,k3,A4,n4,k4,x,rfl,Yhs RS.out hsz (Nat.le_of_eq hz.symm) (fun k hk hk2=>hko k (Nat.le_trans (Nat.le_of_eq hSZ.out.symm) hk) hk2),f3⟩)
def ex1:ByteArray:=⟨#[123,97,32,46,46,46,111,110,32,66,123,99,125,125]⟩
def ex2:ByteArray:=⟨#[113,117,101,114,121,40,36,120,58,73,110,116,61,36,121,41,123,97,125]⟩
def Ynq:List (Int × List UInt8):=[(1,[123]),(2,[97]),(1,[46,46,46]),(2,[111,110]),(2,[66]),(1,[123]),(2,[99]),(1,[125]),(1,[125])]
def Yno:List (Int × List UInt8):=[(2,[113,117,101,114,121]),(1,[40]),(1,[36]),(2,[120]),(1,[58]),(2,[73,110,116]),(1,[61]),(1,[36]),(2,[121]),(1,[41]),(1,[123]),(2,[97]),(1,[125])]
theorem Yhh:Zq ex1.data.toList=(Ynq,0):=by decide +kernel
theorem Yfs:Zq ex2.data.toList=(Yno,0):=by decide +kernel
def Ynm:Wi:=.mk 2 eB eB .nil [] (bz [66]) (.cons (.mk 0 eB (bz [99]) .nil [] eB .nil) .nil)
def Yg5:Vs:=⟨[⟨0,eB,[],[],.cons (.mk 0 eB (bz [97]) .nil [] eB .nil) (.cons Ynm .nil)⟩],[]⟩
theorem Yjq:Mc (Lj Ynq)=.ok Yg5:=by kernel_rfl
theorem Yjy:Mc (Lj Yno)=.error 2:=by kernel_rfl
theorem Yg6 {α:Type} {R:List Tok→Except Int (α × List Tok)} {l:List UInt8} {ts:List (Int × List UInt8)} (h:Zq l=(ts,0)):Um R l=(match R (Lj ts) with | .error x=>.error x | .ok (a,r)=>if r=[] then .ok a else .error 2):=by
 unfold Um
 rw [h,if_neg (by simp)]
 all_goals (cases R (Lj ts)<;>rfl)
theorem Yhq {l:List UInt8} {ts:List (Int × List UInt8)} (h:Zq l=(ts,0)):Um Ll l=Mc (Lj ts):=by
 rw [Yg6 h]
 unfold Ll
 cases Mc (Lj ts) with
 | error x=>rfl
 | ok D=>rfl
theorem Ycx:Um Ll ex1.data.toList=.ok Yg5:=by rw [Yhq Yhh,Yjq]
theorem Yao:Um Ll ex2.data.toList=.error 2:=by rw [Yhq Yfs,Yjy]
theorem Ydy {w w':World} {A0:Option Addr} {n0 k0:Nat} {A1:Option Addr} {n1 k1:Nat} (h:TS w' (Zs w w') (J1 Yg5) [.slice A0 n0 k0,.slice A1 n1 k1]) :
  n0=1∧∃ b o b2 o2 k2,A0=some ⟨b,o,none⟩∧b < w'.heap.size∧b2 < w'.heap.size∧w'.cell? ⟨b,o+4,none⟩=some (.slice (some ⟨b2,o2,none⟩) 2 k2)∧w'.cell? ⟨b2,o2+12,none⟩=some (.string ⟨#[66]⟩):=by
 unfold J1 Yg5 at h
 simp only [Z5,TS,TP,Ya] at h
 obtain ⟨c0,_,e0,⟨A,k,rfl,_,hl⟩,_⟩:=h
 injection e0 with e0 _
 injection e0 with e1 e2 e3
 subst e1 e2
 rw [Xp] at hl
 obtain ⟨b,o,cs,rfl,hb,hc,hs,_⟩:=hl
 refine ⟨rfl,b,o,?_⟩
 simp only [TS,TP,Z7] at hs
 obtain ⟨x0,_,rfl,_,x1,_,rfl,_,x2,_,rfl,_,x3,_,rfl,_,x4,_,rfl,⟨A4,k4,rfl,_,h4⟩,_⟩:=hs
 rw [Xp] at h4
 obtain ⟨b2,o2,cs2,rfl,hb2,hc2,hs2,h5⟩:=h4
 rw [Xp] at h5
 obtain ⟨b3,o3,cs3,e3,hb3,hc3,hs3,_⟩:=h5
 have e3:=Option.some.inj e3
 injection e3 with q1 q2 _
 subst q1 q2
 unfold Ynm at hs3
 rw [Gk] at hs3
 simp only [TS,TP] at hs3
 obtain ⟨y0,_,rfl,_,y1,_,rfl,_,y2,_,rfl,_,y3,_,rfl,_,y4,_,rfl,_,y5,_,rfl,⟨rfl,_⟩,_⟩:=hs3
 have hlen:(Gk (.mk 0 eB (bz [97]) .nil [] eB .nil)).len=7:=by rw [Gk];rfl
 refine ⟨b2,o2,k4,rfl,hb.2,hb2.2,hc 4 _ rfl,?_⟩
 have:=hc3 5 _ rfl
 rw [hlen] at this
 exact this
theorem Yc7 (w:World) (h3:Jw w) (h5:Uj w):Calls Tryz.prog 13 #[] w fun e w'=>e=.returned (.bool true)∧Below w.heap.size w w':=by
 have H1:=Hd (Au ex1 w (by decide) h3 h5)
 rw [Ycx] at H1
 have H2:=fun wx (hb:Below w.heap.size w wx)=>Hd (Au ex2 wx (by decide) (h3.below hb) (h5.below hb))
 rw [Yao] at H2
 clear h3 h5
 go_enter Tryz.func13,Tryz.ntmps13
 go_wp2_with fail
 refine H1.out.mono ?_
 rintro e w1 ⟨A0,n0,k0,A1,n1,k1,x,rfl,⟨rfl,hts⟩,hb1⟩
 obtain ⟨rfl,b,o,b2,o2,k2,rfl,hlb,hlb2,hc1,hc2⟩:=Ydy hts
 have B1:=Hd (hb1.alloc hb1.size (.cells #[.slice (some ⟨b,o,none⟩) 1 k0,.slice A1 n1 k1] 26))
 have C1:=Hd (show (w1.alloc (.cells #[.slice (some ⟨b,o,none⟩) 1 k0,.slice A1 n1 k1] 26)).heap[w1.heap.size]? = _ from heap_alloc_last _ _)
 have HC:=Hd (And.intro hc1 hc2)
 clear hts hb1 hc1 hc2 H1
 go_wp2_with fail
 refine (H2 _ B1.out).out.mono ?_
 rintro e w2 ⟨A2,n2,k2',A3,n3,k3,x2,rfl,⟨rfl,_,hz⟩,hb2⟩
 simp only [List.cons.injEq,Value.slice.injEq,and_true] at hz
 obtain ⟨⟨rfl,rfl,rfl⟩,rfl,rfl,rfl⟩:=hz
 have hs2:=hb2.size
 have hsz:(w1.alloc (.cells #[.slice (some ⟨b,o,none⟩) 1 k0,.slice A1 n1 k1] 26)).heap.size=w1.heap.size+1:=by simp
 have hB:=fun obj=>(hb2.alloc hb2.size obj)
 have B2:=Hd (B1.out.trans (hb2.mono B1.out.size))
 have d0:=fun obj=>((hB obj).block w1.heap.size (by omega)).trans C1.out
 have d1:=fun obj=>((hB obj).cell (p:=⟨b,o+4,none⟩) (by show b < _;omega)).trans ((World.cell?_of_block (a:=⟨b,o+4,none⟩) (Below.heap_alloc _ _ _ hlb)).trans HC.out.1)
 have d2:=fun obj=>((hB obj).cell (p:=⟨b2,o2+12,none⟩) (by show b2 < _;omega)).trans ((World.cell?_of_block (a:=⟨b2,o2+12,none⟩) (Below.heap_alloc _ _ _ hlb2)).trans HC.out.2)
 obtain ⟨c0,c1,_⟩:=ptc (d0 (.cells #[.slice none 0 0,.slice none 0 0] 26))
 have c4:=d1 (.cells #[.slice none 0 0,.slice none 0 0] 26)
 have c5:=d2 (.cells #[.slice none 0 0,.slice none 0 0] 26)
 have B3:=Hd (B2.out.alloc B2.out.size (.cells #[.slice none 0 0,.slice none 0 0] 26))
 clear d0 d1 d2 hb2 hB
 go_wp2_with fail
 go_ret
 exact ⟨rfl,B3.out⟩
open Go.ChangeShapes Go.WideShapes Go.ChangeAt Go.RowKit
theorem own:ownKnob Tryz.prog.godebug=none:=by kernel_rfl
theorem Yjj:laidOutB Tryz.prog=true:=by kernel_rfl
theorem Ynl : Tryz.prog.globalNamed "seine/letters.shapes" = some 1 := by kernel_rfl
theorem Ydv:(Tryz.prog.globals[1]?).map (·.type)=some 267:=by kernel_rfl
theorem Yh9:Tryz.prog.cellsOf 267=12:=by kernel_rfl
theorem Nq:Tryz.prog.cellsOf 266=3:=by kernel_rfl
theorem Yez:Tryz.prog.cellsOf 3=1:=by kernel_rfl
theorem Cm {w:World} {cs:List Value} {m:Nat} {a b c:Int} {p:List MemPlace} (h:DataW.trod (fun _=>()) Tryz.prog w 0 (fun _=>true) false m 266 cs=some (DataW.agg [.lit (.int .i64 a),.lit (.int .i64 b),.lit (.int .i64 c)],p)) :
   cs=[.int .i64 a,.int .i64 b,.int .i64 c]:=by
 obtain ⟨y0,y1,y2,n,hx,hl,h0,h1,h2⟩:=Go.Deep.trod_struct3 Tryz.underlying266 h
 rw [Nq] at hl
 simp only [Yez] at h0 h1 h2
 obtain ⟨n0,c0,rfl,_⟩:=DataW.trod_int Tryz.underlying3 h0
 obtain ⟨n1,c1,rfl,_⟩:=DataW.trod_int Tryz.underlying3 h1
 obtain ⟨n2,c2,rfl,_⟩:=DataW.trod_int Tryz.underlying3 h2
 simp only [Prod.mk.injEq,DataW.agg.injEq,List.cons.injEq,DataW.lit.injEq,Lit.int.injEq,true_and,and_true] at hx
 obtain ⟨⟨rfl,rfl,rfl⟩,_⟩:=hx
 match cs,hl with
 | [x,y,z],_ =>
   simp at c0 c1 c2
   subst c0 c1 c2
   rfl
theorem Yjk {W : World} (h : Lib.VarReads Tryz.prog W "seine/letters.shapes" Rows.laid_seine_letters_shapes) : Wy W := by
 obtain ⟨g',t',cs,fuel,p,hg',ht',hvar,hd⟩:=h
 obtain rfl:=Option.some.inj (Ynl.symm.trans hg')
 obtain rfl:=Option.some.inj (Ydv.symm.trans ht')
 obtain ⟨xs,m,_,hx,hl,hxl,hi⟩:=DataW.trod_array Tryz.underlying267 hd
 rw [Yh9] at hl
 simp only [Nq] at hi
 match xs,hxl with
 | [x0,x1,x2,x3],_ =>
   simp only [Rows.laid_seine_letters_shapes,List.map_cons,List.map_nil,Prod.mk.injEq,DataW.agg.injEq,List.cons.injEq,and_true] at hx
   obtain ⟨⟨e0,e1,e2,e3⟩,_⟩:=hx
   have a0:=Cm (p:=x0.2) ((hi 0 (by omega)).trans (by rw [e0];rfl))
   have a1:=Cm (p:=x1.2) ((hi 1 (by omega)).trans (by rw [e1];rfl))
   have a2:=Cm (p:=x2.2) ((hi 2 (by omega)).trans (by rw [e2];rfl))
   have a3:=Cm (p:=x3.2) ((hi 3 (by omega)).trans (by rw [e3];rfl))
   have hcs:cs.toList=[.int .i64 0,.int .i64 128,.int .i64 0,.int .i64 192,.int .i64 224,.int .i64 128,.int .i64 224,.int .i64 240,.int .i64 2048,.int .i64 240,.int .i64 248,.int .i64 65536]:=by
    have hl':cs.toList.length=12:=hl
    generalize cs.toList=l at *
    match l,hl' with
    | [b0,b1,b2,b3,b4,b5,b6,b7,b8,b9,b10,b11],_ =>
      simp at a0 a1 a2 a3
      obtain ⟨rfl,rfl,rfl⟩:=a0
      obtain ⟨rfl,rfl,rfl⟩:=a1
      obtain ⟨rfl,rfl,rfl⟩:=a2
      obtain ⟨rfl,rfl,rfl⟩:=a3
      rfl
   intro j z hz
   rw [World.var?_cell Ynl hvar j]
   have:cs[j]? = cs.toList[j]?:=by simp
   rw [this,hcs]
   have hj:j < 12:=(List.getElem?_eq_some_iff.1 hz).1
   match j,hj,hz with
   | 0,_,hz|1,_,hz|2,_,hz|3,_,hz|4,_,hz|5,_,hz|6,_,hz|7,_,hz|8,_,hz|9,_,hz|10,_,hz|11,_,hz=>cases hz;rfl
theorem Ynp : Tryz.prog.globalNamed "strconv.ErrSyntax" = some 2 := by kernel_rfl
theorem Yex:(Tryz.prog.globals[2]?).map (·.type)=some 105:=by kernel_rfl
theorem Zv2 {W : World} (h : Lib.VarReads Tryz.prog W "strconv.ErrSyntax" Rows.laid_strconv_ErrSyntax) : ∃ te pe, W.cell? ⟨2, 0, none⟩ = some (.iface te pe) := by
 obtain ⟨g',t',cs,fuel,p,hg',ht',hvar,hd⟩:=h
 obtain rfl:=Option.some.inj (Ynp.symm.trans hg')
 obtain rfl:=Option.some.inj (Yex.symm.trans ht')
 obtain ⟨_,u,v,e,_,_⟩:=iface_of_trod Tryz.underlying105 hd
 refine ⟨u,v,?_⟩
 rw [World.var?_cell Ynp hvar 0]
 have:cs[0]? = cs.toList[0]?:=by simp
 rw [this,e]
 rfl
abbrev Fz : List (String × DataW Unit) := [("math/bits.deBruijn32tab", Rows.laid_math_bits_deBruijn32tab), ("math/bits.deBruijn64tab", Rows.laid_math_bits_deBruijn64tab), ("internal/strconv.uint64pow10", Rows.laid_internal_strconv_uint64pow10), ("strconv.ErrRange", Rows.laid_strconv_ErrRange), ("strconv.ErrSyntax", Rows.laid_strconv_ErrSyntax), ("seine/letters.shapes", Rows.laid_seine_letters_shapes)]
theorem Yh3 {W:World} (h:laidMetH Tryz.prog Fz W):Jw W:=by
 rw [MakeChecks.laidMetH_plain _ _ _ (by kernel_rfl)] at h
 exact ⟨Yjk (Lib.laidMet.reads h (by simp [Fz])),Zv2 (Lib.laidMet.reads h (by simp [Fz]))⟩
theorem Zq6 {H:Type} {enc:TypeId × Value→H} {W W':World} (hb:Below W.heap.size W W'):∀ (ts:List TypeId) (vs:List Value) (ds:List (DataW H)) (ps:List MemPlace),
   (∀ t ∈ ts,Tryz.prog.readableRec t=true∧t < Tryz.prog.types.size)→(∀ x ∈ ps,x.block < W.heap.size) →
   DataW.TrodAll enc Tryz.prog W 0 (fun _=>true) true ts vs ds ps→DataW.TrodAll enc Tryz.prog W' 0 (fun b=>decide (b < W.heap.size)) true ts vs ds ps
 | [],[],[],_,_,_,h=>h
 | t :: ts,v :: vs,d :: ds,ps,hr,hlt,⟨p,q,h1,h2,e⟩=>by
   subst e
   refine ⟨p,q,?_,?_,rfl⟩
   · exact Below.trod Yjj (hr t (by simp)).1 (hr t (by simp)).2 h1 hb (fun x hx=>hlt x (by simp [hx]))
   · exact Zq6 hb ts vs ds q (fun t' ht'=>hr t' (by simp [ht'])) (fun x hx=>hlt x (by simp [hx])) h2
 | [],[],_ :: _,_,_,_,h=>h.elim
 | [],_ :: _,_,_,_,_,h=>h.elim
 | _ :: _,[],_,_,_,_,h=>h.elim
 | _ :: _,_ :: _,[],_,_,_,h=>h.elim
theorem Ygm {H:Type} {enc:TypeId × Value→H} {f:Func} {s:ChangeSpec} {W W':World} {args:Array Value} {ds gs:List (DataW H)} {before:List MemPlace}
   (hW:DataW.Whole enc Tryz.prog f.params.toList s.vars false W args.toList ds gs before) (hv:s.vars=[]) (hf:f.resultTypes=#[4])
   (hr:∀ t ∈ f.params.toList,Tryz.prog.readableRec t=true∧t < Tryz.prog.types.size)
   (hs1:(s.fn H (ds++gs)).results=[.lit (.bool true)]) (hs2:(s.fn H (ds++gs)).args=ds) (hs3:(s.fn H (ds++gs)).vars=[]) (hb:Below W.heap.size W W') :
   s.post enc Tryz.prog f false true false false W args (.bool true) W':=by
 have hlt:∀ x ∈ before,x.block < W.heap.size:=fun x hx=>hW.lt x hx
 have hW0:=hW
 obtain ⟨p,q,hA,hV,e,_,_⟩:=hW0
 rw [hv] at hV
 obtain ⟨rfl,rfl⟩:=trodVars_none hV
 rw [List.append_nil] at e
 subst e
 refine ⟨ds,[],before,[],before,[],hW,?_,?_,?_,World.keptBut_mono (fun x hx=>⟨hx,.inr (.inl hx)⟩) (hb.frame (· ∈ before)),fun h=>by cases h⟩
 · rw [hs1,hf];exact trodAll_mk1 (shut_bool Tryz.underlying4 _)
 · rw [hs2];exact Zq6 hb _ _ _ _ hr hlt hA
 · rw [hs3,hv];rfl
noncomputable def Cu (os:Os):World:=World.laidAll Tryz.prog os Fz
theorem Q9 (os:Os) (args:Array Value):laidMet Tryz.prog Fz ((Cu os).forCall (fun _ _=>0) ⟨#[],args,[]⟩).memory:=
 laidMet_laidAll args (by kernel_rfl) (by kernel_rfl)
open Go.ChangeShapes Go.WideShapes Go.ChangeAt Go.RowKit
open Go.ChangeShapes Go.WideShapes Go.ChangeAt Go.RowKit
theorem Yi1 : Tryz.prog.globalNamed "strconv.ErrRange" = some 3 := by kernel_rfl
theorem Zxm:(Tryz.prog.globals[3]?).map (·.type)=some 105:=by kernel_rfl
theorem Zv1 {W : World} (h : Lib.VarReads Tryz.prog W "strconv.ErrRange" Rows.laid_strconv_ErrRange) : ∃ te pe, W.cell? ⟨3, 0, none⟩ = some (.iface te pe) := by
 obtain ⟨g',t',cs,fuel,p,hg',ht',hvar,hd⟩:=h
 obtain rfl:=Option.some.inj (Yi1.symm.trans hg')
 obtain rfl:=Option.some.inj (Zxm.symm.trans ht')
 obtain ⟨_,u,v,e,_,_⟩:=iface_of_trod Tryz.underlying105 hd
 refine ⟨u,v,?_⟩
 rw [World.var?_cell Yi1 hvar 0]
 have:cs[0]? = cs.toList[0]?:=by simp
 rw [this,e]
 rfl
theorem Yh7:(Tryz.prog.globals[0]?).map (·.type)=some 262:=by kernel_rfl
theorem Yfw {W : World} (h : Lib.VarReads Tryz.prog W "internal/strconv.uint64pow10" Rows.laid_internal_strconv_uint64pow10) : Lib.TabIs Tryz.prog W "internal/strconv.uint64pow10" .u64 Lib.pow10Tab := by
 obtain ⟨g',t',cs,fuel,p,hg',ht',hvar,hd⟩:=h
 obtain rfl:=Option.some.inj (Ynn.symm.trans hg')
 obtain rfl:=Option.some.inj (Yh7.symm.trans ht')
 have hd':DataW.trod (fun _=>()) Tryz.prog W 0 (fun _=>true) false fuel 262 cs.toList=some (Lib.tabData .u64 Lib.pow10Tab,p):=hd
 have:=Lib.cells_of_tab Tryz.underlying262 Tryz.underlying238 (by kernel_rfl) (by kernel_rfl) hd'
 unfold Lib.TabIs
 rw [hvar,← this]
theorem Yej {W:World} (h:laidMetH Tryz.prog Fz W):Uj W:=by
 rw [MakeChecks.laidMetH_plain _ _ _ (by kernel_rfl)] at h
 exact ⟨Yjk (Lib.laidMet.reads h (by simp [Fz])),Zv1 (Lib.laidMet.reads h (by simp [Fz])),Yfw (Lib.laidMet.reads h (by simp [Fz]))⟩
open Go.ChangeShapes Go.WideShapes Go.ChangeAt Go.RowKit
def Ydn (w:World) (B:Nat) (A:Option Addr) (n:Nat) (ts:List (Int × ByteArray)):Prop:=
 ts.length=n∧∀ (j:Nat) t,ts[j]? = some t→∃ b o,A=some ⟨b,o,none⟩∧b < B∧w.cell? ⟨b,o+j*2,none⟩=some (.int .i64 t.1)∧w.cell? ⟨b,o+j*2+1,none⟩=some (.string t.2)
theorem Ydn.below {w w':World} {B:Nat} {A:Option Addr} {n:Nat} {ts:List (Int × ByteArray)} (h:Ydn w B A n ts) (hb:Below B w w'):Ydn w' B A n ts:=
 ⟨h.1,fun j t ht=>by
  obtain ⟨b,o,e,hlt,h0,h1⟩:=h.2 j t ht
  exact ⟨b,o,e,hlt,(hb.cell (p:=⟨b,o+j*2,none⟩) hlt).trans h0,(hb.cell (p:=⟨b,o+j*2+1,none⟩) hlt).trans h1⟩⟩
theorem Ydn.more {w:World} {B B':Nat} {A:Option Addr} {n:Nat} {ts:List (Int × ByteArray)} (h:Ydn w B A n ts) (hB:B≤B'):Ydn w B' A n ts:=
 ⟨h.1,fun j t ht=>by
  obtain ⟨b,o,e,hlt,r⟩:=h.2 j t ht
  exact ⟨b,o,e,by omega,r⟩⟩
theorem Ydn.on {w w':World} {A:Option Addr} {n:Nat} {ts:List (Int × ByteArray)} (h:Ydn w w.heap.size A n ts) (hb:Below w.heap.size w w'):Ydn w' w'.heap.size A n ts:=(h.below hb).more hb.size
def Yj6 (ts:List (Int × List UInt8)):List (Int × ByteArray):=ts.map fun t=>(t.1,⟨t.2.toArray⟩)
theorem Zvu:∀ (ts:List (Int × List UInt8)) (j:Nat) t,ts[j]? = some t→(X7 ts)[2*j]? = some (.int .i64 t.1)∧(X7 ts)[2*j+1]? = some (.string ⟨t.2.toArray⟩):=by
 intro ts
 induction ts with
 | nil=>intro j t h;simp at h
 | cons u ts ih =>
   intro j t h
   cases j with
   | zero =>
     simp at h
     subst h
     exact ⟨rfl,rfl⟩
   | succ j =>
     have:=ih j t (by simpa using h)
     exact this
theorem Ee.ts {w:World} {A:Option Addr} {cap:Nat} {ts:List (Int × List UInt8)} (h:Ee w A cap ts):Ydn w w.heap.size A ts.length (Yj6 ts):=by
 refine ⟨by simp [Yj6],fun j t ht=>?_⟩
 unfold Yj6 at ht
 rw [List.getElem?_map] at ht
 obtain ⟨u,hu,rfl⟩:=Option.map_eq_some_iff.1 ht
 obtain ⟨v0,v1⟩:=Zvu ts j u hu
 obtain ⟨g,rfl,hg,h0⟩:=h.1 _ _ v0
 obtain ⟨g',e,_,h1⟩:=h.1 _ _ v1
 injection e with e
 injection e with e1
 subst e1
 exact ⟨g,0,rfl,hg,by rw [Nat.zero_add,Nat.mul_comm];exact h0,by rw [Nat.zero_add,Nat.mul_comm];exact h1⟩
def Yi7 (w wx:World):Prop:=Wy wx∧Below w.heap.size w wx
theorem Yi7.start {w:World} (ht:Wy w):Yi7 w w:=⟨ht,Below.refl _ _⟩
theorem Yi7.next {w wx wy:World} (h:Yi7 w wx) (hb:Below wx.heap.size wx wy):Yi7 w wy:=⟨h.1.below hb h.1.lt,h.2.trans (hb.mono h.2.size)⟩
theorem Yi7.alloc {w wx:World} (h:Yi7 w wx) (o:Obj):Yi7 w (wx.alloc o):=h.next ((Below.refl _ _).alloc (Nat.le_refl _) o)
def Ydb (b:Nat) (us:List Int) (w:World):Prop:=
 ∃ v,w.heap[b]? = some (.cells #[v] 202 (0,0))∧w.ownsRow (b+1) 3 1 v us.length (us.map (Value.int .i64))
theorem Ydb.lt {b:Nat} {us:List Int} {w:World} (h:Ydb b us w):b < w.heap.size:=by
 obtain ⟨v,hb,_⟩:=h
 rcases Nat.lt_or_ge b w.heap.size with h'|h'
 · exact h'
 · rw [Array.getElem?_eq_none h'] at hb;cases hb
theorem Zk7 {w w':World} (h:Below w.heap.size w w'):w.grownBy w' none:=⟨h.os,h.tape,h.output,h.size,fun i hi _=>h.block i hi⟩
theorem Zkt (v:Value):v.ownBlock=none∨v.ownBlock ≠ none:=Classical.em _
theorem Ydb.below {b:Nat} {us:List Int} {w w':World} (h:Ydb b us w) (hb:Below w.heap.size w w'):Ydb b us w':=by
 have hl:=h.lt
 obtain ⟨v,h1,h2⟩:=h
 exact ⟨v,(hb.block b hl).trans h1,h2.kept (Zk7 hb) (Zkt _)⟩
theorem Xk {w:World} {base:Nat} {e:TypeId} {v:Value} {n:Nat} {xs:List Value} (h:w.ownsRow base e 1 v n xs):∃ A cap,v=.slice A n cap:=by
 rcases h.2 with ⟨hv,hn⟩|⟨g,cap,cur,hv,_⟩
 · exact ⟨none,0,by rw [hv,hn]⟩
 · exact ⟨_,_,hv⟩
theorem Zzz {w:World} {base n:Nat} {A:Option Addr} {cap:Nat} {us:List Int} (h:w.ownsRow base 3 1 (.slice A n cap) us.length (us.map (Value.int .i64))):n=us.length∧Ln w w.heap.size A us.length us:=by
 rcases h.2 with ⟨hv,hn⟩|⟨g,c,cur,hv,hbase,hh,hnc,hm,hcs,htk⟩
 · injection hv with h1 h2 h3
   have hus:us=[]:=List.eq_nil_of_length_eq_zero hn
   subst hus
   exact ⟨by simpa using h2,⟨rfl,fun j z hz=>by simp at hz⟩⟩
 · have hv':=hv
   injection hv' with h1 h2 h3
   subst h1
   refine ⟨h2,rfl,fun j z hz=>⟨g,0,rfl,?_,?_⟩⟩
   · exact (h.lt g rfl).2
   · subst h2 h3
     rw [Nat.zero_add,World.ownsRow.cellAt h j (by have:=(List.getElem?_eq_some_iff.1 hz).1;omega),List.getElem?_map,hz]
     rfl
def Ar (w:World) (A:Option Addr) (n:Nat) (zs:List Int):Prop:=
 zs.length=n∧(zs=[]∨∃ g c fz,A=some ⟨g,0,none⟩∧w.heap[g]? = some (.cells c 3 fz)∧∀ (j:Nat) z,zs[j]? = some z→c[j]? = some (.int .i64 z))
theorem Ar.at {w:World} {A:Option Addr} {n:Nat} {zs:List Int} (h:Ar w A n zs) {j:Nat} {z:Int} (hz:zs[j]? = some z):∃ g o,A=some ⟨g,o,none⟩∧w.cell? ⟨g,o+j,none⟩=some (.int .i64 z):=by
 rcases h.2 with rfl|⟨g,c,fz,e,hh,hc⟩
 · simp at hz
 · exact ⟨g,0,e,by simp [World.cell?,hh,hc j z hz]⟩
theorem Ar.kept {w w':World} {A:Option Addr} {n b B:Nat} {zs:List Int} {bs:List Value} (h:Ar w A n zs) (hB:Lib.IsBuilderF 102 5 B b bs w) (ho:Lib.OthersKept 5 (some b) w w'):Ar w' A n zs:=by
 refine ⟨h.1,h.2.imp_right fun ⟨g,c,fz,e,hh,hc⟩=>⟨g,c,fz,e,ho g _ hh ?_ ?_,hc⟩⟩
 · intro e1
   injection e1 with e1
   subst e1
   rcases hB with ⟨_,v,hb,_⟩|⟨_,v,hb,_⟩<;>(rw [hh] at hb;injection hb with hb;injection hb with _ h2 _;exact absurd h2 (by decide))
 · intro c' fz' e1
   injection e1 with _ h2 _
   exact absurd h2 (by decide)
theorem Zqe (c:Int):1≤(Lib.encodeRune c).length∧(Lib.encodeRune c).length≤4:=by
 have:=Lib.encodeRuneZ_length c
 simpa [Lib.encodeRune] using this
def QTo (s:ByteArray) (cs ds rest:List Int) (pos:Nat):Prop:=cs=ds++rest∧s.data.toList.drop pos=Yf rest
theorem QTo.next {s:ByteArray} {cs ds rest:List Int} {c:Int} {pos:Nat} (h:QTo s cs ds (c :: rest) pos):QTo s cs (ds++[c]) rest (pos+(Lib.encodeRune c).length):=by
 refine ⟨by rw [h.1];simp,?_⟩
 rw [← List.drop_drop,h.2,show Yf (c :: rest)=Lib.encodeRune c++Yf rest by simp [Yf],List.drop_left]
end Go.Proofs.YtpkmbhnikilihaaGreatDoor
