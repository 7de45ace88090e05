/- The landed document: its walk. -/
import Derived.Test.YtkacnnhdfkpenaaGreatDoorSj38
namespace Go.Proofs.YtkacnnhdfkpenaaGreatDoor
open Go.RowKit
theorem readS_names {s:ByteArray} (hs:s.size≤9000):NamesT (tokB (readS s.data.toList).1):=by
 unfold readS
 split
 · intro t ht;cases ht
 · split
   · intro t ht;cases ht
   · cases h:readL s.data.toList with
     | none=>intro t ht;cases ht
     | some ts=>exact read_names hs h
theorem readF_len:∀ (n:Nat) (l:List UInt8) ts,readF n l=some ts→ts.length≤n
 | 0,_,_,h=>by cases h
 | n + 1,l,ts,h=>by
   rw [readF] at h
   split at h
   · exact Nat.le_succ_of_le (readF_len n _ ts h)
   · split at h
     · cases h;simp
     · cases hk:tokL l with
       | none=>rw [hk] at h;cases h
       | some p =>
         rw [hk] at h
         cases hr:readF n (l.drop p.2) with
         | none=>simp only [hr] at h;cases h
         | some us =>
           simp only [hr] at h
           have h:=Option.some.inj h
           subst h
           have:=readF_len n _ us hr
           simp;omega
theorem readS_len {s:ByteArray} (hs:s.size≤9000):(readS s.data.toList).1.length≤9001:=by
 have h3:s.data.toList.length=s.size:=Array.length_toList
 unfold readS
 split
 · simp
 · split
   · simp
   · cases h:readL s.data.toList with
     | none=>simp
     | some ts=>have:=readF_len _ _ ts h;show ts.length≤_;omega
def ToksAt (w:World) (A:Option Addr) (cap:Nat) (ts:List (Int × List UInt8)):Prop:=(∀ (j:Nat) v,(tokVals ts)[j]? = some v→∃ g,A=some ⟨g,0,none⟩∧g < w.heap.size∧w.cell? ⟨g,j,none⟩=some v)∧ts.length≤cap
theorem ToksAt.one {w:World} {A:Option Addr} {cap:Nat} {k:Int} {x:List UInt8} (h:ToksAt w A cap [(k,x)]):∃ g,A=some ⟨g,0,none⟩∧g < w.heap.size∧w.cell? ⟨g,0,none⟩=some (.int .i64 k)∧w.cell? ⟨g,1,none⟩=some (.string ⟨x.toArray⟩):=by
 obtain ⟨g,hA,hg,h0⟩:=h.1 0 _ rfl
 obtain ⟨g',hA',_,h1⟩:=h.1 1 _ rfl
 subst hA
 injection hA' with e
 injection e with e1
 subst e1
 exact ⟨g,rfl,hg,h0,h1⟩
def K3 (w wx:World):Prop:=Laid3 wx∧Below w.heap.size w wx
theorem K3.next {w wx wy:World} (h:K3 w wx) (hb:Below wx.heap.size wx wy):K3 w wy:=⟨h.1.below hb,h.2.trans (hb.mono h.2.size)⟩
theorem K3.alloc {w wx:World} (h:K3 w wx) (o:Obj):K3 w (wx.alloc o):=h.next ((Below.refl _ _).alloc (Nat.le_refl _) o)
namespace LNumbers
end LNumbers
open Go.RowKit
namespace LUnits
end LUnits
def rightB (t:Int × List UInt8):Bool:=
 if t.1=1 then decide (0 < markN t.2∧markN t.2=t.2.length) else if t.1=2 then nameB t.2 else if t.1=3∨t.1=4 then decide (kindL t.2=t.1) else if t.1=5 then goodB t.2 else false
theorem toNat_byte {z:Int} (h0:0≤z) (h1:z < 256):((z.toNat.toUInt8).toNat:Int)=z:=toNat_ofInt h0 h1
theorem enc_high {c:Int} (h:128≤c):∀ b ∈ Lib.encodeRune c,128≤b.toNat:=by
 intro b hb
 unfold Lib.encodeRune at hb
 obtain ⟨z,hz,rfl⟩:=List.mem_map.1 hb
 have hb:=Lib.encodeRuneZ_byte c z hz
 have hz2:128≤z:=by
  unfold Lib.encodeRuneZ at hz
  split at hz
  · omega
  · split at hz
    · simp at hz;omega
    · split at hz
      · simp at hz;omega
      · split at hz
        · simp at hz;omega
        · simp at hz;omega
 have:=toNat_byte hb.1 hb.2
 omega
theorem enc_low {c:Int} (h0:0≤c) (h1:c < 128):Lib.encodeRune c=[c.toNat.toUInt8]:=by
 unfold Lib.encodeRune
 rw [Lib.encodeRuneZ_one h0 (by omega)]
 rfl
theorem name_ascii {n:List UInt8} (hn:nameB n=true):n.all ascB=true:=by
 have key:∀ b:UInt8,(letB (b.toNat:Int) || digB (b.toNat:Int))=true→ascB b=true:=byte_all (by decide +kernel)
 cases n with
 | nil=>rfl
 | cons b t =>
   have:(letB (b.toNat:Int) && tailB t)=true:=hn
   rw [Bool.and_eq_true] at this
   rw [List.all_cons,Bool.and_eq_true]
   refine ⟨key b (by rw [this.1];rfl),List.all_eq_true.2 fun x hx=>key x (List.all_eq_true.1 this.2 x hx)⟩
def bz (n:List UInt8):ByteArray:=⟨n.toArray⟩
end Go.Proofs.YtkacnnhdfkpenaaGreatDoor
