/- The landed readers refuse with two errors alone. -/
import Derived.Test.YtkmloefbkgcbkaaGreatDoorSr28
import Derived.Test.YtkmloefbkgcbkaaGreatDoorCards
import Derived.Test.YtkmloefbkgcbkaaGreatDoorTie
import Derived.OpenShut
import Derived.Deep.DeepHandedRow
import Derived.Lib.LaidU8
import Derived.Lay
import Derived.MakeChecks
import Derived.SizedLaws
set_option maxRecDepth 100000
set_option maxHeartbeats 4000000
namespace Go.Proofs.YtkmloefbkgcbkaaGreatDoor
def Bad (x:Int):Prop:=x=2∨x=4
def Er {α:Type} (p:Rdr α):Prop:=∀ ts x,p ts=.error x→Bad x
theorem Ae {α:Type} : Er (Ga 2:Rdr α):=fun _ _ h=>.inl (Except.error.inj h).symm
theorem Zjq {α:Type} : Er (Ga 4:Rdr α):=fun _ _ h=>.inr (Except.error.inj h).symm
theorem Ib {α:Type} (a:α):Er (Gk a):=fun _ _ h=>by cases h
theorem Ymq {α β:Type} {p:Rdr α} {q:α→Rdr β} (hp:Er p) (hq:∀ a,Er (q a)):Er (Ym p q):=fun ts x h=>by
 unfold Ym at h
 cases hz:p ts with
 | error y=>rw [hz] at h;have:=Except.error.inj h;subst this;exact hp _ _ hz
 | ok z=>obtain ⟨a,r⟩:=z;rw [hz] at h;exact hq a _ _ h
theorem Sp {α:Type} {k:Int} {s:ByteArray} {p q:Rdr α} (hp:Er p) (hq:Er q):Er (ifR k s p q):=fun ts x h=>by
 unfold ifR at h
 split at h
 · exact hp _ _ h
 · exact hq _ _ h
theorem Yly {α:Type} {p:ByteArray→Rdr α} {q:Rdr α} (hp:∀ n,Er (p n)) (hq:Er q):Er (nmR p q):=fun ts x h=>by
 unfold nmR at h
 cases hz:Zg ts with
 | none=>rw [hz] at h;exact hq _ _ h
 | some z=>obtain ⟨n,r⟩:=z;rw [hz] at h;exact hp n _ _ h
theorem Ym5 {α:Type} {P:Prop} [Decidable P] {p q:Rdr α} (hp:Er p) (hq:Er q):Er (if P then p else q):=by split;exact hp;exact hq
theorem Yk7:Er Zzj:=fun ts x h=>by
 cases ts with
 | nil=>exact .inl (Except.error.inj h).symm
 | cons t r =>
   unfold Zzj at h;simp only at h
   cases hs:Zv t with
   | none=>rw [hs] at h;exact .inl (Except.error.inj h).symm
   | some q=>rw [hs] at h;cases h
def ErN {α:Type} (n:Nat) (p:Rdr α):Prop:=∀ ts x,ts.length≤n→p ts=.error x→Bad x
theorem Me {α:Type} {n:Nat} {k:Int} {s:ByteArray} {p q:Rdr α} (hp:∀ m,m < n→ErN m p) (hq:ErN n q):ErN n (ifR k s p q):=fun ts x hl h=>by
 unfold ifR at h
 split at h
 · rename_i ha
   exact hp ts.tail.length (by have:=(Zn ha).2;omega) _ _ (Nat.le_refl _) h
 · exact hq _ _ hl h
theorem Sh {α β:Type} {n:Nat} {p:Rdr α} {q:α→Rdr β} (sp:Str p) (hp:ErN n p) (hq:∀ a m,m < n→ErN m (q a)):ErN n (Ym p q):=fun ts x hl h=>by
 unfold Ym at h
 cases hz:p ts with
 | error y=>rw [hz] at h;have:=Except.error.inj h;subst this;exact hp _ _ hl hz
 | ok z =>
   obtain ⟨a,r⟩:=z;rw [hz] at h;exact hq a r.length (by have:=(sp _ _ _ hz).2;omega) _ _ (Nat.le_refl _) h
theorem Bf {α β:Type} {n:Nat} {p:Rdr α} {q:α→Rdr β} (hp:ErN n p) (hq:∀ a,Er (q a)):ErN n (Ym p q):=fun ts x hl h=>by
 unfold Ym at h
 cases hz:p ts with
 | error y=>rw [hz] at h;have:=Except.error.inj h;subst this;exact hp _ _ hl hz
 | ok z=>obtain ⟨a,r⟩:=z;rw [hz] at h;exact hq a _ _ h
theorem Yke {α:Type} {n:Nat} {p:ByteArray→Rdr α} {q:Rdr α} (hp:∀ s m,m < n→ErN m (p s)) (hq:ErN n q):ErN n (nmR p q):=fun ts x hl h=>by
 unfold nmR at h
 cases hz:Zg ts with
 | none=>rw [hz] at h;exact hq _ _ hl h
 | some z=>obtain ⟨s,r⟩:=z;rw [hz] at h;exact hp s r.length (by have:=(Zt hz).2;omega) _ _ (Nat.le_refl _) h
theorem Ec {α:Type} {n:Nat} {p:Rdr α} (h:Er p):ErN n p:=fun ts x _ e=>h ts x e
theorem Yg8 {α:Type} {p:Rdr α} (h:∀ n,ErN n p):Er p:=fun ts x e=>h ts.length ts x (Nat.le_refl _) e
theorem Zx5 {α:Type} {n:Nat} {P:Prop} [Decidable P] {p q:Rdr α} (hp:ErN n p) (hq:ErN n q):ErN n (if P then p else q):=by split;exact hp;exact hq
theorem Ybj:∀ n,(∀ fx d,ErN n (Im fx d))∧(∀ fx d acc,ErN n (Gi fx d acc))∧(∀ fx d acc,ErN n (Mz fx d acc))∧(∀ fx d,ErN n (Co fx d)):=by
 intro n
 induction n using Nat.strongRecOn with
 | ind n ih =>
   have hv:∀ fx d,ErN n (Im fx d):=by
     intro fx d;rw [Wn];refine Me (fun m hm=>Zx5 (Ec Zjq) (Bf ((ih m hm).2.1 _ _ _) fun _=>Ib _)) ?_;refine Me (fun m hm=>Zx5 (Ec Zjq) (Bf ((ih m hm).2.2.1 _ _ _) fun _=>Ib _)) ?_;exact Ec (Ym5 Yk7 (Sp (Yly (fun _=>Ib _) Ae) Yk7))
   have hm:∀ fx d,ErN n (Co fx d):=by
     intro fx d;rw [Yfg];exact Yke (fun _ k hk=>Me (fun m hm=>Bf ((ih m (by omega)).1 _ _) fun _=>Ib _) (Ec Ae)) (Ec Ae)
   refine ⟨hv,fun fx d acc=>?_,fun fx d acc=>?_,hm⟩
   · rw [Dy]
     exact Me (fun _ _=>Ec (Ib _)) (Sh (Ynb _ _) (hv _ _) fun _ m hm=>(ih m hm).2.1 _ _ _)
   · rw [Sg]
     exact Me (fun _ _=>Ec (Ib _)) (Sh (Qs _ _) (hm _ _) fun _ m hm=>(ih m hm).2.2.1 _ _ _)
theorem Yo9 (fx:Bool) (d:Nat):Er (Im fx d):=Yg8 fun n=>(Ybj n).1 fx d
theorem Yod (fx:Bool) (d:Nat):Er (Co fx d):=Yg8 fun n=>(Ybj n).2.2.2 fx d
theorem Ym2 {α ρ:Type} {one:Rdr α} {add:ρ→α→ρ} {e:ByteArray} (H:Str one):∀ n,ErN n one→∀ acc,ErN n (N7 one add e acc):=by
 intro n
 induction n using Nat.strongRecOn with
 | ind n ih =>
   intro ho acc;rw [Ybt H];exact Sh H ho fun _ m hm=>Me (fun _ _=>Ec (Ib _)) (ih m hm (fun ts x hl h=>ho ts x (by omega) h) _)
theorem Ynn (fx:Bool) (d:Nat):Er (U8 fx d):=by
 rw [Rm];exact Sp (Yg8 fun n=>Ym2 (Qs _ _) n (Ec (Yod _ _)) _) (Ib _)
theorem Yl2 (fx:Bool) (d:Nat):Er (Dh fx d):=by
 have : ∀ n acc,ErN n (Zqh fx d acc):=by
  intro n
  induction n using Nat.strongRecOn with
  | ind n ih =>
    intro acc;rw [S8];refine Me (fun m hm=>Yke (fun _ k hk=>?_) (Ec Ae)) (Ec (Ib _));intro ts x hl h;unfold Ym at h
    cases hz:U8 fx d ts with
    | error y=>rw [hz] at h;have:=Except.error.inj h;subst this;exact Ynn _ _ _ _ hz
    | ok z =>
      obtain ⟨a,r⟩:=z;rw [hz] at h;exact ih r.length (by have:=(Fp hz).length_le;omega) _ _ _ (Nat.le_refl _) h
 exact Yg8 fun n=>this n []
theorem Ydh:∀ left,Er (Zj left)
 | 0=>by rw [Cf];exact Sp Zjq (Yly (fun _=>Sp (Ib _) (Ib _)) Ae)
 | left+1=>by
   rw [Dn];exact Sp (Ymq (Ydh left) fun _=>Sp (Sp (Ib _) (Ib _)) Ae) (Yly (fun _=>Sp (Ib _) (Ib _)) Ae)
open Go.RowKit
theorem Df {α:Type} {x:Int} (h:(.error 2:Except Int α)=.error x):Bad x:=.inl (Except.error.inj h).symm
theorem I6 {α:Type} {x y:Int} (h:(.error y:Except Int α)=.error x) (hb:Bad y):Bad x:=by have:=Except.error.inj h;subst this;exact hb
theorem Dw {α ρ:Type} {one:List Tok→Except Int (α × List Tok)} {add:ρ→α→ρ} {e:ByteArray} (H:∀ ts x,one ts=.error x→Bad x):∀ (f:Nat) (acc:ρ) (ts:List Tok) (x:Int),I7 one add e f acc ts=.error x→Bad x
 | 0,_,_,_,h=>Df h
 | f + 1,acc,ts,x,h=>by
   rw [I7] at h
   cases ho:one ts with
   | error y=>rw [ho] at h;exact I6 h (H _ _ ho)
   | ok q =>
     obtain ⟨a,r⟩:=q;rw [ho] at h;simp only at h
     split at h
     · cases h
     · exact Dw H f _ _ _ h
theorem Yd6 {d:Nat} {ts:List Tok} {x:Int} (h:V0 d ts=.error x):Bad x:=by
 unfold V0 at h
 split at h
 · exact Df h
 · split at h
   · split at h
     · rename_i ht;exact I6 h (Ydh _ _ _ ht)
     · split at h
       · split at h
         · rename_i ht;exact I6 h (Yo9 _ _ _ _ ht)
         · cases h
       · cases h
   · exact Df h
theorem Ybd {d:Nat} (ts:List Tok) (x:Int) (h:W4 d ts=.error x):Bad x:=Yd6 h
theorem Yd8 {d:Nat} {ts:List Tok} {x:Int} (h:Jj d ts=.error x):Bad x:=by
 unfold Jj at h
 split at h
 · exact Dw Ybd _ _ _ _ h
 · cases h
theorem Ypg {d:Nat} (ts:List Tok) (x:Int) (h:fdR d ts=.error x):Bad x:=by
 unfold fdR at h
 split at h
 · exact Df h
 · split at h
   · rename_i ht;exact I6 h (Yd8 ht)
   · split at h
     · split at h
       · rename_i ht;exact I6 h (Ydh _ _ _ ht)
       · split at h
         · rename_i ht;exact I6 h (Yl2 _ _ _ _ ht)
         · cases h
     · exact Df h
theorem Ype (ts:List Tok) (x:Int) (h:enR ts=.error x):Bad x:=by
 unfold enR at h
 split at h
 · exact Df h
 · split at h
   · exact Df h
   · cases h
theorem P3 {s:ByteArray} : ∀ (f:Nat) (acc:List ByteArray) (ts:List Tok) (x:Int),Vk s f acc ts=.error x→Bad x
 | 0,_,_,_,h=>Df h
 | f + 1,acc,ts,x,h=>by
   rw [Vk] at h
   split at h
   · split at h
     · exact Df h
     · exact P3 f _ _ _ h
   · cases h
theorem Zqx {s:ByteArray} {ts:List Tok} {x:Int} (h:Xl s ts=.error x):Bad x:=by
 unfold Xl at h
 split at h
 · exact Df h
 · exact P3 _ _ _ _ h
theorem Ycv {ts:List Tok} {x:Int} (h:Zw ts=.error x):Bad x:=by
 unfold Zw at h
 split at h
 · exact Zqx h
 · cases h
theorem Yj6 {d:Nat} {k:Int} {n:ByteArray} {ts:List Tok} {x:Int} (h:Uk d k n ts=.error x):Bad x:=by
 unfold Uk at h
 split at h
 · split at h
   · rename_i hf;exact I6 h (Ycv hf)
   · split at h
     · split at h
       · rename_i hs;exact I6 h (Dw Ypg _ _ _ _ hs)
       · cases h
     · exact Df h
 · split at h
   · split at h
     · split at h
       · rename_i hs;exact I6 h (Zqx hs)
       · cases h
     · exact Df h
   · split at h
     · split at h
       · split at h
         · rename_i hs;exact I6 h (Dw Ype _ _ _ _ hs)
         · cases h
       · exact Df h
     · split at h
       · split at h
         · rename_i hs;exact I6 h (Dw Ybd _ _ _ _ hs)
         · cases h
       · exact Df h
theorem Ygw {d:Nat} {ts:List Tok} {x:Int} (h:Ut d ts=.error x):Bad x:=by
 unfold Ut at h
 split at h
 · exact Df h
 · split at h
   · exact Df h
   · split at h
     · exact Df h
     · exact Yj6 h
theorem Yig {ts:List Tok} {x:Int} (h:Ql ts=.error x):Bad x:=by
 unfold Ql at h
 split at h
 · split at h
   · split at h
     · exact Df h
     · cases h
   · exact Df h
 · cases h
theorem Yf8 {ts:List Tok} {x:Int} (h:Yp ts=.error x):Bad x:=by
 unfold Yp at h
 split at h
 · split at h
   · split at h
     · split at h
       · exact Df h
       · split at h
         · rename_i hm;exact I6 h (Yig hm)
         · split at h
           · cases h
           · exact Df h
     · exact Df h
   · exact Df h
 · exact Df h
theorem Qh:∀ (f:Nat) (told:Bool) (D:Ub) (ts:List Tok) (x:Int),Nb f told D ts=.error x→Bad x
 | 0,_,_,_,_,h=>Df h
 | f + 1,told,D,ts,x,h=>by
   rw [Nb] at h
   split at h
   · split at h
     · rename_i hr;exact I6 h (Yf8 hr)
     · split at h
       · cases h
       · exact Qh f _ _ _ _ h
   · split at h
     · rename_i hr;exact I6 h (Ygw hr)
     · split at h
       · split at h<;>cases h
       · exact Qh f _ _ _ _ h
theorem Yg6 (ts:List Tok) (x:Int) (h:Ld ts=.error x):Bad x:=by
 unfold Ld at h
 cases hd:Sm ts with
 | error y=>rw [hd] at h;exact I6 h (Qh _ _ _ _ _ hd)
 | ok D=>rw [hd] at h;cases h
def Res {α:Type} (enc:α→TrS) (zero:List Value) (w w':World) (R:Except Int α) (x:Int) (cs:List Value):Prop:=
 match R with
 | .ok a=>x=0∧TS w' (Y7 w w') (enc a) cs
 | .error y=>x=y∧y ≠ 0∧cs=zero
theorem Yp8 {α:Type} {enc:α→TrS} {zero cs:List Value} {w0 w w' W:World} {R:Except Int α} {x:Int} (h:Res enc zero w w' R x cs) (hw:w0.heap.size≤w.heap.size) (hs:w'.heap.size≤W.heap.size) (hk:∀ k,w.heap.size≤k→k < w'.heap.size→W.heap[k]? = w'.heap[k]?):Res enc zero w0 W R x cs:=by
 cases R with
 | error y=>exact h
 | ok a=>exact ⟨h.1,TS.keep (fun k hk'=>⟨⟨Nat.le_trans hw hk'.1,Nat.lt_of_lt_of_le hk'.2 hs⟩,hk k hk'.1 hk'.2⟩) _ _ h.2⟩
theorem Re {R:Ending→World→Prop} {fn:Func} {a:Act} {W:World} {cs:List Value} {ty:TypeId} {p q b:Nat} {v:Value} {ds:TypeDesc} (hf:fn.results=#[.cell p ty,.tmp q]) (h2:a.tmps.getD p undef=.pointer (some ⟨b,0,none⟩)) (h3:a.tmps.getD q undef=v) (hd:a.defers=[])
  (hc:W.heap[b]? = some (.cells cs.toArray ty (0,0))) (hu:Tryz.prog.underlying ty=some ds) (hs:∃ fs,ds=.struct fs) (hi:(Tryz.prog.info? ty).map (·.size)=some cs.length) (hR:R (.returned (.tuple #[.agg cs.toArray,v])) W):bodyPost Tryz.prog fn R .ret a W:=by
 obtain ⟨fs,rfl⟩:=hs;have hl:(loadVar ty ⟨b,0,none⟩).run Tryz.prog W=.ok (.agg cs.toArray) W:=run_loadVar_row W b ty ty cs.toArray (0,0) _ hc hu rfl (by rw [hi];simp);refine bodyPost_ret ?_ hd hR;have h2':a.tmps[p]?.getD undef=.pointer (some ⟨b,0,none⟩):=by rw [← h2];simp
 have h3':a.tmps[q]?.getD undef=v:=by rw [← h3];simp
 simp [results,hf,h2',h3',asAddr,hl]
theorem Zvq (s:ByteArray) (w:World) (hs:s.size≤9000) (h3:Ue w) (h5:Ve w):Calls Tryz.prog 8 #[.string s,.func (.func 9) #[] #[]] w fun e w'=>∃ (A0:Option Addr) (n0 k0:Nat) (sq sm:ByteArray) (x:Int),e=.returned (.tuple #[.agg #[.slice A0 n0 k0,.string sq,.string sm],.int .i64 x])∧Res Xw [.slice none 0 0,.string ⟨#[]⟩,.string ⟨#[]⟩] w w' (F7 Ld s.data.toList) x [.slice A0 n0 k0,.string sq,.string sm]∧Below w.heap.size w w':=by
 have hGD:=Mr hs;have hl:=Zqi hs;unfold F7;obtain ⟨⟨ts,x⟩,hr⟩:∃ p,Zz s.data.toList=p:=⟨_,rfl⟩;rw [hr] at hGD hl ⊢;replace hl:ts.length≤200000:=by have:ts.length≤9001:=hl;omega
 by_cases hx:x=0
 · subst hx
   rw [if_neg (by simp)]
   cases ht:Ld (C8 ts) with
   | error y =>
     refine (Yey s w hs h3 h5 ts hl _ (fun g wx hb hg hx hk=>Zzn (C8 ts) g wx hGD hx hk) hr y ht).mono ?_;rintro e w' ⟨rfl,hb⟩;exact ⟨none,0,0,⟨#[]⟩,⟨#[]⟩,y,rfl,⟨rfl,by rcases Yg6 _ _ ht with e|e<;>omega,rfl⟩,hb⟩
   | ok p =>
     obtain ⟨a,r⟩:=p
     cases r with
     | nil =>
       refine (Zva s w hs h3 h5 ts hl _ (fun g wx hb hg hx hk=>Zzn (C8 ts) g wx hGD hx hk) hr a ht).mono ?_;rintro e w' ⟨cs,rfl,hts,hb⟩;obtain ⟨A0,n0,k0,sq,sm,e0,hts⟩:=Qt (show N9 Xw w' (Y7 w w') a (.agg cs.toArray) from ⟨cs,rfl,hts⟩);injection e0 with e0
       have e0:cs=[.slice A0 n0 k0,.string sq,.string sm]:=by have:=congrArg Array.toList e0;simpa using this
       subst e0;exact ⟨_,_,_,_,_,0,rfl,show Res Xw _ w w' (if ([]:List Tok)=[] then .ok a else .error 2) _ _ by rw [if_pos rfl];exact ⟨rfl,hts⟩,hb⟩
     | cons t ts2 =>
       refine (Zj6 s w hs h3 h5 ts hl _ (fun g wx hb hg hx hk=>Zzn (C8 ts) g wx hGD hx hk) hr a t ts2 ht).mono ?_;rintro e w' ⟨rfl,hb⟩;exact ⟨none,0,0,⟨#[]⟩,⟨#[]⟩,2,rfl,show Res Xw _ w w' (if t :: ts2=[] then .ok a else .error 2) _ _ by rw [if_neg (by simp)];exact ⟨rfl,by omega,rfl⟩,hb⟩
 · rw [if_pos hx]
   refine (Zy3 s w hs h3 ts x hx hr).mono ?_;rintro e w' ⟨rfl,hb⟩;exact ⟨none,0,0,⟨#[]⟩,⟨#[]⟩,x,rfl,⟨rfl,hx,rfl⟩,hb⟩
theorem Bo (s:ByteArray) (w:World) (hs:s.size≤9000) (h3:Ue w) (h5:Ve w):Calls Tryz.prog 5 #[.string s] w fun e w'=>∃ (A0:Option Addr) (n0 k0:Nat) (sq sm:ByteArray) (x:Int),e=.returned (.tuple #[.agg #[.slice A0 n0 k0,.string sq,.string sm],.int .i64 x])∧Res Xw [.slice none 0 0,.string ⟨#[]⟩,.string ⟨#[]⟩] w w' (F7 Ld s.data.toList) x [.slice A0 n0 k0,.string sq,.string sm]∧Below w.heap.size w w':=by
 refine cQE (fun Q hQ=>?_);have HQ:=Hd hQ;have hmf:∀ (fn:Fn) (first cap:Array Value) (w:World),(Instr.makeFunc fn first cap).run Tryz.prog w=.ok (.func fn first cap) w:=fun _ _ _ _=>rfl;have B0:=Hd (blw w (.cells #[.slice none 0 0,.string ⟨#[]⟩,.string ⟨#[]⟩] 25));have Y:=Hd (heap_alloc_last w (.cells #[.slice none 0 0,.string ⟨#[]⟩,.string ⟨#[]⟩] 25));have hSZ:=Hd (show (w.alloc (.cells #[.slice none 0 0,.string ⟨#[]⟩,.string ⟨#[]⟩] 25)).heap.size=w.heap.size+1 by simp);clear hQ
 go_enter Tryz.func5,Tryz.ntmps5
 go_wp2_with fail
 refine (Zvq s _ hs (h3.below B0.out) (h5.below B0.out)).mono ?_;rintro e w2 ⟨A0,n0,k0,sq,sm,x,rfl,hres,hb2⟩;have hsz:=B0.out.size;have Z:=Hd ((hb2.block (w.heap.size) (by simp)).trans Y.out);have B2:=Hd (B0.out.trans (hb2.mono hsz));have RS:=Hd hres;have hs2:=hb2.size;obtain ⟨j0,j1,j2,kz⟩:=Zf Z.out;have kf0:=kz 0;have kf1:=kz 1;have kf2:=kz 2;clear kz hres;go_wp2_with fail
 have f1:=Yu (b:=w.heap.size) (t:=25) (ys:=[.slice none 0 0,.string ⟨#[]⟩,.string ⟨#[]⟩]) (xs:=[.slice A0 n0 k0,.string sq,.string sm]) rfl Z.out;have f3:=Ja (B:=w.heap.size) (b:=w.heap.size) (by omega) [.slice A0 n0 k0,.string sq,.string sm] 0 _ B2.out;have hz:(setAll w2 (w.heap.size) 0 [.slice A0 n0 k0,.string sq,.string sm]).heap.size=w2.heap.size:=Vz _ _ _ _;have hko:∀ k,(w.heap.size)+1≤k→k < w2.heap.size→(setAll w2 (w.heap.size) 0 [.slice A0 n0 k0,.string sq,.string sm]).heap[k]? = w2.heap[k]?:=fun k hk _=>Xk (by omega) _ _ _;exact Re rfl rfl rfl rfl f1 Tryz.underlying25 ⟨_,rfl⟩ (by kernel_rfl) (HQ.out _ _ ⟨A0,n0,k0,sq,sm,x,rfl,Yp8 RS.out hsz (Nat.le_of_eq hz.symm) (fun k hk hk2=>hko k (Nat.le_trans (Nat.le_of_eq hSZ.out.symm) hk) hk2),f3⟩)
def sx1:ByteArray:=⟨#[117,110,105,111,110,32,85,32,61,32,65,32,124,32,66]⟩
def sx2:ByteArray:=⟨#[115,99,97,108,97,114,32,88]⟩
def Yqm:List (Int × List UInt8):=[(2,[117,110,105,111,110]),(2,[85]),(1,[61]),(2,[65]),(1,[124]),(2,[66])]
def Yql:List (Int × List UInt8):=[(2,[115,99,97,108,97,114]),(2,[88])]
theorem Yjq:Zz sx1.data.toList=(Yqm,0):=by decide +kernel
theorem Yiz:Zz sx2.data.toList=(Yql,0):=by decide +kernel
def Ygb:Ub:=⟨[⟨3,bz [85],[],[],[bz [65],bz [66]],[]⟩],Ye,eB⟩
theorem Yl5:Sm (C8 Yqm)=.ok Ygb:=by kernel_rfl
theorem Yla:Sm (C8 Yql)=.error 2:=by kernel_rfl
theorem Ye4 {α:Type} {R:List Tok→Except Int (α × List Tok)} {l:List UInt8} {ts:List (Int × List UInt8)} (h:Zz l=(ts,0)):F7 R l=(match R (C8 ts) with | .error x=>.error x | .ok (a,r)=>if r=[] then .ok a else .error 2):=by
 unfold F7;rw [h,if_neg (by simp)]
 all_goals (cases R (C8 ts)<;>rfl)
theorem Yk9 {l:List UInt8} {ts:List (Int × List UInt8)} (h:Zz l=(ts,0)):F7 Ld l=Sm (C8 ts):=by
 rw [Ye4 h];unfold Ld
 cases Sm (C8 ts) with
 | error x=>rfl
 | ok D=>rfl
theorem Yb5:F7 Ld sx1.data.toList=.ok Ygb:=by rw [Yk9 Yjq,Yl5]
theorem Ycq:F7 Ld sx2.data.toList=.error 2:=by rw [Yk9 Yiz,Yla]
theorem Yil {w w':World} {A0:Option Addr} {n0 k0:Nat} {sq sm:ByteArray} (h:TS w' (Y7 w w') (Xw Ygb) [.slice A0 n0 k0,.string sq,.string sm]) :
  n0=1∧sq=Ye∧∃ b o A4 k4,A0=some ⟨b,o,none⟩∧b < w'.heap.size∧w'.cell? ⟨b,o,none⟩=some (.int .i64 3)∧w'.cell? ⟨b,o+4,none⟩=some (.slice A4 2 k4):=by
 unfold Xw Ygb at h;simp only [Z5,TS,TP,Z9] at h;obtain ⟨c0,_,e0,⟨A,k,rfl,_,hl⟩,d0,_,e9,⟨rfl,_⟩,_⟩:=h;injection e0 with e0 e0'
 injection e0 with e1 e2 e3
 subst e1 e2;rw [e9] at e0';injection e0' with e4 _
 injection e4 with e4
 rw [Xc] at hl;obtain ⟨b,o,cs,rfl,hb,hc,hs,_⟩:=hl;refine ⟨rfl,e4,b,o,?_⟩;simp only [TS,TP] at hs;obtain ⟨x0,_,rfl,⟨rfl,_⟩,x1,_,rfl,_,x2,_,rfl,_,x3,_,rfl,_,x4,_,rfl,⟨A4,k4,rfl,_,h4⟩,_⟩:=hs;exact ⟨A4,k4,rfl,hb.2,hc 0 _ rfl,hc 4 _ rfl⟩
theorem Zvo (w:World) (h3:Ue w) (h5:Ve w):Calls Tryz.prog 4 #[] w fun e w'=>e=.returned (.bool true)∧Below w.heap.size w w':=by
 have H1:=Hd (Bo sx1 w (by decide) h3 h5);rw [Yb5] at H1;have H2:=fun wx (hb:Below w.heap.size w wx)=>Hd (Bo sx2 wx (by decide) (h3.below hb) (h5.below hb));rw [Ycq] at H2;clear h3 h5
 go_enter Tryz.func4,Tryz.ntmps4
 go_wp2_with fail
 refine H1.out.mono ?_;rintro e w1 ⟨A0,n0,k0,sq,sm,x,rfl,⟨rfl,hts⟩,hb1⟩;obtain ⟨rfl,rfl,b,o,A4,k4,rfl,hlb,hc0,hc4⟩:=Yil hts;have B1:=Hd (hb1.alloc hb1.size (.cells #[.slice (some ⟨b,o,none⟩) 1 k0,.string Ye,.string sm] 25));have C1:=Hd (show (w1.alloc (.cells #[.slice (some ⟨b,o,none⟩) 1 k0,.string Ye,.string sm] 25)).heap[w1.heap.size]? = _ from heap_alloc_last _ _);have HC:=Hd (And.intro hc0 hc4);clear hts hb1 hc0 hc4 H1;go_wp2_with fail
 refine (H2 _ B1.out).out.mono ?_;rintro e w2 ⟨A2,n2,k2',sq2,sm2,x2,rfl,⟨rfl,_,hz⟩,hb2⟩;simp only [List.cons.injEq,Value.slice.injEq,Value.string.injEq,and_true] at hz;obtain ⟨⟨rfl,rfl,rfl⟩,rfl,rfl⟩:=hz;have hs2:=hb2.size;have hsz:(w1.alloc (.cells #[.slice (some ⟨b,o,none⟩) 1 k0,.string Ye,.string sm] 25)).heap.size=w1.heap.size+1:=by simp
 have hB:=fun obj=>(hb2.alloc hb2.size obj);have B2:=Hd (B1.out.trans (hb2.mono B1.out.size));have d0:=fun obj=>((hB obj).block w1.heap.size (by omega)).trans C1.out;have d1:=fun obj=>((hB obj).cell (p:=⟨b,o,none⟩) (by show b < _;omega)).trans ((World.cell?_of_block (a:=⟨b,o,none⟩) (Below.heap_alloc _ _ _ hlb)).trans HC.out.1);have d2:=fun obj=>((hB obj).cell (p:=⟨b,o+4,none⟩) (by show b < _;omega)).trans ((World.cell?_of_block (a:=⟨b,o+4,none⟩) (Below.heap_alloc _ _ _ hlb)).trans HC.out.2);obtain ⟨c0,c1,c2,_⟩:=Zf (d0 (.cells #[.slice none 0 0,.string ⟨#[]⟩,.string ⟨#[]⟩] 25));have c4:=d1 (.cells #[.slice none 0 0,.string ⟨#[]⟩,.string ⟨#[]⟩] 25);have c5:=d2 (.cells #[.slice none 0 0,.string ⟨#[]⟩,.string ⟨#[]⟩] 25);have B3:=Hd (B2.out.alloc B2.out.size (.cells #[.slice none 0 0,.string ⟨#[]⟩,.string ⟨#[]⟩] 25));clear d0 d1 d2 hb2 hB;have hqn:Ye.toList=[81,117,101,114,121]:=by decide +kernel
 go_wp2_with fail
 go_ret
 exact ⟨rfl,B3.out⟩
open Go.ChangeShapes Go.WideShapes Go.ChangeAt Go.RowKit
theorem own:ownKnob Tryz.prog.godebug=none:=by kernel_rfl
theorem Ykx:laidOutB Tryz.prog=true:=by kernel_rfl
theorem Yqj : Tryz.prog.globalNamed "seine/letters.shapes" = some 0 := by kernel_rfl
theorem Yhs:(Tryz.prog.globals[0]?).map (·.type)=some 159:=by kernel_rfl
theorem Yg2:Tryz.prog.cellsOf 159=12:=by kernel_rfl
theorem Q4:Tryz.prog.cellsOf 158=3:=by kernel_rfl
theorem Yjl:Tryz.prog.cellsOf 3=1:=by kernel_rfl
theorem Ci {w:World} {cs:List Value} {m:Nat} {a b c:Int} {p:List MemPlace} (h:DataW.trod (fun _=>()) Tryz.prog w 0 (fun _=>true) false m 158 cs=some (DataW.agg [.lit (.int .i64 a),.lit (.int .i64 b),.lit (.int .i64 c)],p)) :
   cs=[.int .i64 a,.int .i64 b,.int .i64 c]:=by
 obtain ⟨y0,y1,y2,n,hx,hl,h0,h1,h2⟩:=Go.Deep.trod_struct3 Tryz.underlying158 h;rw [Q4] at hl;simp only [Yjl] at h0 h1 h2;obtain ⟨n0,c0,rfl,_⟩:=DataW.trod_int Tryz.underlying3 h0;obtain ⟨n1,c1,rfl,_⟩:=DataW.trod_int Tryz.underlying3 h1;obtain ⟨n2,c2,rfl,_⟩:=DataW.trod_int Tryz.underlying3 h2;simp only [Prod.mk.injEq,DataW.agg.injEq,List.cons.injEq,DataW.lit.injEq,Lit.int.injEq,true_and,and_true] at hx;obtain ⟨⟨rfl,rfl,rfl⟩,_⟩:=hx
 match cs,hl with
 | [x,y,z],_ =>
   simp at c0 c1 c2
   subst c0 c1 c2
   rfl
theorem Ylg {W : World} (h : Lib.VarReads Tryz.prog W "seine/letters.shapes" Rows.laid_seine_letters_shapes) : Wp W := by
 obtain ⟨g',t',cs,fuel,p,hg',ht',hvar,hd⟩:=h;obtain rfl:=Option.some.inj (Yqj.symm.trans hg');obtain rfl:=Option.some.inj (Yhs.symm.trans ht');obtain ⟨xs,m,_,hx,hl,hxl,hi⟩:=DataW.trod_array Tryz.underlying159 hd;rw [Yg2] at hl;simp only [Q4] at hi
 match xs,hxl with
 | [x0,x1,x2,x3],_ =>
   simp only [Rows.laid_seine_letters_shapes,List.map_cons,List.map_nil,Prod.mk.injEq,DataW.agg.injEq,List.cons.injEq,and_true] at hx;obtain ⟨⟨e0,e1,e2,e3⟩,_⟩:=hx;have a0:=Ci (p:=x0.2) ((hi 0 (by omega)).trans (by rw [e0];rfl));have a1:=Ci (p:=x1.2) ((hi 1 (by omega)).trans (by rw [e1];rfl));have a2:=Ci (p:=x2.2) ((hi 2 (by omega)).trans (by rw [e2];rfl));have a3:=Ci (p:=x3.2) ((hi 3 (by omega)).trans (by rw [e3];rfl))
   have hcs:cs.toList=[.int .i64 0,.int .i64 128,.int .i64 0,.int .i64 192,.int .i64 224,.int .i64 128,.int .i64 224,.int .i64 240,.int .i64 2048,.int .i64 240,.int .i64 248,.int .i64 65536]:=by
    have hl':cs.toList.length=12:=hl;generalize cs.toList=l at *
    match l,hl' with
    | [b0,b1,b2,b3,b4,b5,b6,b7,b8,b9,b10,b11],_ =>
      simp at a0 a1 a2 a3
      obtain ⟨rfl,rfl,rfl⟩:=a0;obtain ⟨rfl,rfl,rfl⟩:=a1;obtain ⟨rfl,rfl,rfl⟩:=a2;obtain ⟨rfl,rfl,rfl⟩:=a3
      rfl
   intro j z hz;rw [World.var?_cell Yqj hvar j];have:cs[j]? = cs.toList[j]?:=by simp
   rw [this,hcs];have hj:j < 12:=(List.getElem?_eq_some_iff.1 hz).1
   match j,hj,hz with
   | 0,_,hz|1,_,hz|2,_,hz|3,_,hz|4,_,hz|5,_,hz|6,_,hz|7,_,hz|8,_,hz|9,_,hz|10,_,hz|11,_,hz=>cases hz;rfl
theorem Yqh : Tryz.prog.globalNamed "strconv.ErrSyntax" = some 2 := by kernel_rfl
theorem Yg7:(Tryz.prog.globals[2]?).map (·.type)=some 139:=by kernel_rfl
theorem Zyg {W : World} (h : Lib.VarReads Tryz.prog W "strconv.ErrSyntax" Rows.laid_strconv_ErrSyntax) : ∃ te pe, W.cell? ⟨2, 0, none⟩ = some (.iface te pe) := by
 obtain ⟨g',t',cs,fuel,p,hg',ht',hvar,hd⟩:=h;obtain rfl:=Option.some.inj (Yqh.symm.trans hg');obtain rfl:=Option.some.inj (Yg7.symm.trans ht');obtain ⟨_,u,v,e,_,_⟩:=iface_of_trod Tryz.underlying139 hd;refine ⟨u,v,?_⟩;rw [World.var?_cell Yqh hvar 0];have:cs[0]? = cs.toList[0]?:=by simp
 rw [this,e]
 rfl
abbrev L2 : List (String × DataW Unit) := [("math/bits.deBruijn32tab", Rows.laid_math_bits_deBruijn32tab), ("math/bits.deBruijn64tab", Rows.laid_math_bits_deBruijn64tab), ("internal/strconv.uint64pow10", Rows.laid_internal_strconv_uint64pow10), ("strconv.ErrRange", Rows.laid_strconv_ErrRange), ("strconv.ErrSyntax", Rows.laid_strconv_ErrSyntax), ("seine/letters.shapes", Rows.laid_seine_letters_shapes)]
theorem Yh7 {W:World} (h:laidMetH Tryz.prog L2 W):Ue W:=by
 rw [MakeChecks.laidMetH_plain _ _ _ (by kernel_rfl)] at h;exact ⟨Ylg (Lib.laidMet.reads h (by simp [L2])),Zyg (Lib.laidMet.reads h (by simp [L2]))⟩
theorem Tw {H:Type} {enc:TypeId × Value→H} {W W':World} (hb:Below W.heap.size W W'):∀ (ts:List TypeId) (vs:List Value) (ds:List (DataW H)) (ps:List MemPlace),
   (∀ t ∈ ts,Tryz.prog.readableRec t=true∧t < Tryz.prog.types.size)→(∀ x ∈ ps,x.block < W.heap.size) →
   DataW.TrodAll enc Tryz.prog W 0 (fun _=>true) true ts vs ds ps→DataW.TrodAll enc Tryz.prog W' 0 (fun b=>decide (b < W.heap.size)) true ts vs ds ps
 | [],[],[],_,_,_,h=>h
 | t :: ts,v :: vs,d :: ds,ps,hr,hlt,⟨p,q,h1,h2,e⟩=>by
   subst e;refine ⟨p,q,?_,?_,rfl⟩
   · exact Below.trod Ykx (hr t (by simp)).1 (hr t (by simp)).2 h1 hb (fun x hx=>hlt x (by simp [hx]))
   · exact Tw hb ts vs ds q (fun t' ht'=>hr t' (by simp [ht'])) (fun x hx=>hlt x (by simp [hx])) h2
 | [],[],_ :: _,_,_,_,h=>h.elim
 | [],_ :: _,_,_,_,_,h=>h.elim
 | _ :: _,[],_,_,_,_,h=>h.elim
 | _ :: _,_ :: _,[],_,_,_,h=>h.elim
theorem Ygv {H:Type} {enc:TypeId × Value→H} {f:Func} {s:ChangeSpec} {W W':World} {args:Array Value} {ds gs:List (DataW H)} {before:List MemPlace}
   (hW:DataW.Whole enc Tryz.prog f.params.toList s.vars false W args.toList ds gs before) (hv:s.vars=[]) (hf:f.resultTypes=#[4])
   (hr:∀ t ∈ f.params.toList,Tryz.prog.readableRec t=true∧t < Tryz.prog.types.size)
   (hs1:(s.fn H (ds++gs)).results=[.lit (.bool true)]) (hs2:(s.fn H (ds++gs)).args=ds) (hs3:(s.fn H (ds++gs)).vars=[]) (hb:Below W.heap.size W W') :
   s.post enc Tryz.prog f false true false false W args (.bool true) W':=by
 have hlt:∀ x ∈ before,x.block < W.heap.size:=fun x hx=>hW.lt x hx;have hW0:=hW;obtain ⟨p,q,hA,hV,e,_,_⟩:=hW0;rw [hv] at hV;obtain ⟨rfl,rfl⟩:=trodVars_none hV;rw [List.append_nil] at e;subst e;refine ⟨ds,[],before,[],before,[],hW,?_,?_,?_,World.keptBut_mono (fun x hx=>⟨hx,.inr (.inl hx)⟩) (hb.frame (· ∈ before)),fun h=>by cases h⟩
 · rw [hs1,hf];exact trodAll_mk1 (shut_bool Tryz.underlying4 _)
 · rw [hs2];exact Tw hb _ _ _ _ hr hlt hA
 · rw [hs3,hv];rfl
noncomputable def W8 (os:Os):World:=World.laidAll Tryz.prog os L2
theorem Rx (os:Os) (args:Array Value):laidMet Tryz.prog L2 ((W8 os).forCall (fun _ _=>0) ⟨#[],args,[]⟩).memory:=
 laidMet_laidAll args (by kernel_rfl) (by kernel_rfl)
open Go.ChangeShapes Go.WideShapes Go.ChangeAt Go.RowKit
open Go.ChangeShapes Go.WideShapes Go.ChangeAt Go.RowKit
theorem Ykm : Tryz.prog.globalNamed "strconv.ErrRange" = some 3 := by kernel_rfl
theorem Zy9:(Tryz.prog.globals[3]?).map (·.type)=some 139:=by kernel_rfl
theorem Zyi {W : World} (h : Lib.VarReads Tryz.prog W "strconv.ErrRange" Rows.laid_strconv_ErrRange) : ∃ te pe, W.cell? ⟨3, 0, none⟩ = some (.iface te pe) := by
 obtain ⟨g',t',cs,fuel,p,hg',ht',hvar,hd⟩:=h;obtain rfl:=Option.some.inj (Ykm.symm.trans hg');obtain rfl:=Option.some.inj (Zy9.symm.trans ht');obtain ⟨_,u,v,e,_,_⟩:=iface_of_trod Tryz.underlying139 hd;refine ⟨u,v,?_⟩;rw [World.var?_cell Ykm hvar 0];have:cs[0]? = cs.toList[0]?:=by simp
 rw [this,e]
 rfl
theorem Yh0:(Tryz.prog.globals[4]?).map (·.type)=some 212:=by kernel_rfl
theorem Yi9 {W : World} (h : Lib.VarReads Tryz.prog W "internal/strconv.uint64pow10" Rows.laid_internal_strconv_uint64pow10) : Lib.TabIs Tryz.prog W "internal/strconv.uint64pow10" .u64 Lib.pow10Tab := by
 obtain ⟨g',t',cs,fuel,p,hg',ht',hvar,hd⟩:=h;obtain rfl:=Option.some.inj (Yqi.symm.trans hg');obtain rfl:=Option.some.inj (Yh0.symm.trans ht');have hd':DataW.trod (fun _=>()) Tryz.prog W 0 (fun _=>true) false fuel 212 cs.toList=some (Lib.tabData .u64 Lib.pow10Tab,p):=hd;have:=Lib.cells_of_tab Tryz.underlying212 Tryz.underlying180 (by kernel_rfl) (by kernel_rfl) hd';unfold Lib.TabIs;rw [hvar,← this]
theorem Yjh {W:World} (h:laidMetH Tryz.prog L2 W):Ve W:=by
 rw [MakeChecks.laidMetH_plain _ _ _ (by kernel_rfl)] at h;exact ⟨Ylg (Lib.laidMet.reads h (by simp [L2])),Zyi (Lib.laidMet.reads h (by simp [L2])),Yi9 (Lib.laidMet.reads h (by simp [L2]))⟩
open Go.ChangeShapes Go.WideShapes Go.ChangeAt Go.RowKit
end Go.Proofs.YtkmloefbkgcbkaaGreatDoor
