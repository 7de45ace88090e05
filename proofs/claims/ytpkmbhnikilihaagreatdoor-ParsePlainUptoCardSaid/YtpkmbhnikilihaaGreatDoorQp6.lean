/- Readers of tokens as plain functions: what is read hangs on what is read, and on the token behind it; a text that is cut off within ends there. -/
import Derived.Test.YtpkmbhnikilihaaGreatDoorQp5
import Derived.Defers
import Derived.Recover
import Derived.Laws.EntriesVeiled
import Derived.Lib.ConvBytes
import Derived.Laws.Strings3
import Derived.Laws.Closers25
import Derived.Laws.Closers25b
import Derived.BigCall
import Derived.BigGuard
import Derived.Lib.Walk
import Derived.Laws.RangeString
import Derived.Laws.RangeAny
import Derived.Laws.Cover4
import Derived.Lib.OthersKept
namespace Go.Proofs.YtpkmbhnikilihaaGreatDoor
abbrev Rdr (α : Type) := List Tok → Except Int (α × List Tok)
def Str {α : Type} (p : Rdr α) : Prop := ∀ ts a r, p ts = .ok (a, r) → Sfx r ts
def bindR {α β : Type} (p : Rdr α) (q : α → Rdr β) : Rdr β := fun ts => match p ts with | .error x => .error x | .ok (a, r) => q a r
def ifR {α : Type} (k : Int) (s : ByteArray) (p q : Rdr α) : Rdr α := fun ts => if atB k s ts = true then p ts.tail else q ts
def seeR {α : Type} (b : List Tok → Bool) (p q : Rdr α) : Rdr α := fun ts => if b ts = true then p ts else q ts
def nmR {α : Type} (p : ByteArray → Rdr α) (q : Rdr α) : Rdr α := fun ts => match nameR ts with | none => q ts | some (n, r) => p n r
theorem name_cons (t : Tok) (ts : List Tok) : nameR (t :: ts) = if t.1 = 2 then some (t.2, ts) else none := rfl
theorem read_fuel : ∀ f : Nat,
   (∀ fx d ts f', 2 * ts.length + 1 ≤ f → f ≤ f' → valR f' fx d ts = valR f fx d ts) ∧
   (∀ fx d acc ts f', 2 * ts.length + 2 ≤ f → f ≤ f' → itemsR f' fx d acc ts = itemsR f fx d acc ts) ∧
   (∀ fx d acc ts f', 2 * ts.length + 2 ≤ f → f ≤ f' → memsR f' fx d acc ts = memsR f fx d acc ts) ∧
   (∀ fx d ts f', 2 * ts.length + 1 ≤ f → f ≤ f' → memR f' fx d ts = memR f fx d ts) := by
 intro f
 induction f with
 | zero => exact ⟨fun _ _ _ _ h _ => by omega, fun _ _ _ _ _ h _ => by omega, fun _ _ _ _ _ h _ => by omega, fun _ _ _ _ h _ => by omega⟩
 | succ f ih =>
   obtain ⟨iv, il, im, ib⟩ := ih
   refine ⟨fun fx d ts f' h hf => ?_, fun fx d acc ts f' h hf => ?_, fun fx d acc ts f' h hf => ?_, fun fx d ts f' h hf => ?_⟩
   · obtain ⟨g, rfl⟩ : ∃ g, f' = g + 1 := ⟨f' - 1, by omega⟩
     rw [valR, valR]
     by_cases h1 : atB 1 oB ts = true
     · have := at_len h1
       rw [if_pos h1, if_pos h1, il _ _ _ _ g (by omega) (by omega)]
     · rw [if_neg h1, if_neg h1]
       by_cases h2 : atB 1 omB ts = true
       · have := at_len h2
         rw [if_pos h2, if_pos h2, im _ _ _ _ g (by omega) (by omega)]
       · rw [if_neg h2, if_neg h2]
   · obtain ⟨g, rfl⟩ : ∃ g, f' = g + 1 := ⟨f' - 1, by omega⟩
     rw [itemsR, itemsR, iv _ _ _ g (by omega) (by omega)]
     split
     · rfl
     · cases hv : valR f fx d ts with
       | error x => rfl
       | ok q =>
         obtain ⟨v, r⟩ := q
         have := (read_less f).1 _ _ _ _ _ hv
         exact il _ _ _ _ g (by omega) (by omega)
   · obtain ⟨g, rfl⟩ : ∃ g, f' = g + 1 := ⟨f' - 1, by omega⟩
     rw [memsR, memsR, ib _ _ _ g (by omega) (by omega)]
     split
     · rfl
     · cases hv : memR f fx d ts with
       | error x => rfl
       | ok q =>
         obtain ⟨⟨nm, v⟩, r⟩ := q
         have := (read_less f).2.2.2 _ _ _ _ _ hv
         exact im _ _ _ _ g (by omega) (by omega)
   · obtain ⟨g, rfl⟩ : ∃ g, f' = g + 1 := ⟨f' - 1, by omega⟩
     rw [memR, memR]
     cases hn : nameR ts with
     | none => rfl
     | some q =>
       obtain ⟨nm, r⟩ := q
       have := name_len hn
       simp only
       by_cases h1 : atB 1 colB r = true
       · have := at_len h1
         rw [if_pos h1, if_pos h1, iv _ _ _ g (by omega) (by omega)]
       · rw [if_neg h1, if_neg h1]
def itemsD (fx : Bool) (d : Nat) (acc : VL) (ts : List Tok) : Except Int (VL × List Tok) := itemsR (2 * ts.length + 2) fx d acc ts
def memsD (fx : Bool) (d : Nat) (acc : VM) (ts : List Tok) : Except Int (VM × List Tok) := memsR (2 * ts.length + 2) fx d acc ts
def errR {α : Type} (x : Int) : Rdr α := fun _ => .error x
def retR {α : Type} (a : α) : Rdr α := fun ts => .ok (a, ts)
def varV : Rdr VT := ifR 1 dolB (nmR (fun s => retR (.mk 8 0 s .nil .nil)) (errR 2)) oneR
theorem valD_eq (fx : Bool) (d : Nat) : valD fx d = ifR 1 oB (if d = 16 then errR 4 else bindR (itemsD fx (d + 1) .nil) fun l => retR (.mk 6 0 ⟨#[]⟩ l .nil)) (ifR 1 omB (if d = 16 then errR 4 else bindR (memsD fx (d + 1) .nil) fun m => retR (.mk 7 0 ⟨#[]⟩ .nil m)) (if fx = true then oneR else varV)) := by
 funext ts
 unfold valD ifR
 rw [valR]
 by_cases h1 : atB 1 oB ts = true
 · have := at_len h1
   rw [if_pos h1, if_pos h1]
   by_cases hd : d = 16
   · rw [if_pos hd, if_pos hd]; rfl
   · rw [if_neg hd, if_neg hd]
     unfold bindR itemsD
     rw [show 2 * ts.tail.length + 2 = 2 * ts.length by omega]
     cases itemsR (2 * ts.length) fx (d + 1) .nil ts.tail <;> rfl
 · rw [if_neg h1, if_neg h1]
   by_cases h2 : atB 1 omB ts = true
   · have := at_len h2
     rw [if_pos h2, if_pos h2]
     by_cases hd : d = 16
     · rw [if_pos hd, if_pos hd]; rfl
     · rw [if_neg hd, if_neg hd]
       unfold bindR memsD
       rw [show 2 * ts.tail.length + 2 = 2 * ts.length by omega]
       cases memsR (2 * ts.length) fx (d + 1) .nil ts.tail <;> rfl
   · rw [if_neg h2, if_neg h2]
     cases fx with
     | true => rfl
     | false =>
       rw [if_neg (by simp : ¬ (false = true))]
       unfold varV ifR nmR
       cases h3 : atB 1 dolB ts with
       | true =>
         simp only [Bool.not_false, Bool.and_self, if_true]
         cases nameR ts.tail <;> rfl
       | false => rfl
theorem itemsD_eq (fx : Bool) (d : Nat) (acc : VL) : itemsD fx d acc = ifR 1 cB (retR acc) (bindR (valD fx d) fun v => itemsD fx d (acc.snoc v)) := by
 funext ts
 unfold itemsD ifR
 rw [itemsR]
 split
 · rfl
 · unfold bindR valD
   cases hv : valR (2 * ts.length + 1) fx d ts with
   | error x => rfl
   | ok q =>
     obtain ⟨v, r⟩ := q
     have := (read_less _).1 _ _ _ _ _ hv
     exact (read_fuel _).2.1 _ _ _ _ _ (Nat.le_refl _) (by omega)
theorem memsD_eq (fx : Bool) (d : Nat) (acc : VM) : memsD fx d acc = ifR 1 cmB (retR acc) (bindR (memD fx d) fun p => memsD fx d (acc.snoc p.1 p.2)) := by
 funext ts
 unfold memsD ifR
 rw [memsR]
 split
 · rfl
 · unfold bindR memD
   cases hv : memR (2 * ts.length + 1) fx d ts with
   | error x => rfl
   | ok q =>
     obtain ⟨⟨nm, v⟩, r⟩ := q
     have := (read_less _).2.2.2 _ _ _ _ _ hv
     exact (read_fuel _).2.2.1 _ _ _ _ _ (Nat.le_refl _) (by omega)
theorem memD_eq (fx : Bool) (d : Nat) : memD fx d = nmR (fun nm => ifR 1 colB (bindR (valD fx d) fun v => retR (nm, v)) (errR 2)) (errR 2) := by
 funext ts
 unfold memD nmR ifR
 rw [memR]
 cases hn : nameR ts with
 | none => rfl
 | some q =>
   obtain ⟨nm, r⟩ := q
   have := name_len hn
   simp only
   by_cases h1 : atB 1 colB r = true
   · have := at_len h1
     rw [if_pos h1, if_pos h1]
     unfold bindR valD
     rw [(read_fuel (2 * r.tail.length + 1)).1 _ _ _ (2 * ts.length) (Nat.le_refl _) (by omega)]
     cases valR (2 * r.tail.length + 1) fx d r.tail <;> rfl
   · rw [if_neg h1, if_neg h1]; rfl
theorem str_val (fx : Bool) (d : Nat) : Str (valD fx d) := fun _ _ _ h => val_sfx h
theorem str_mem (fx : Bool) (d : Nat) : Str (memD fx d) := fun _ _ _ h => mem_sfx h
theorem serR_fuel {α ρ : Type} {one : Rdr α} {add : ρ → α → ρ} {e : ByteArray} (H : Str one) : ∀ (f f' : Nat) (acc : ρ) (ts : List Tok), ts.length < f → ts.length < f' → serR one add e f acc ts = serR one add e f' acc ts
 | 0, _, _, _, h, _ => absurd h (Nat.not_lt_zero _)
 | _ + 1, 0, _, _, _, h => absurd h (Nat.not_lt_zero _)
 | f + 1, f' + 1, acc, ts, h, h' => by
   rw [serR, serR]
   cases ho : one ts with
   | error x => rfl
   | ok p =>
     obtain ⟨a, r⟩ := p
     simp only
     split
     · rfl
     · have := (H _ _ _ ho).2
       exact serR_fuel H f f' _ _ (by omega) (by omega)
def serD {α ρ : Type} (one : Rdr α) (add : ρ → α → ρ) (e : ByteArray) (acc : ρ) : Rdr ρ := fun ts => serR one add e (ts.length + 1) acc ts
theorem serD_eq {α ρ : Type} {one : Rdr α} {add : ρ → α → ρ} {e : ByteArray} (H : Str one) (acc : ρ) : serD one add e acc = bindR one fun a => ifR 1 e (retR (add acc a)) (serD one add e (add acc a)) := by
 funext ts
 unfold serD bindR ifR
 rw [serR]
 cases ho : one ts with
 | error x => rfl
 | ok p =>
   obtain ⟨a, r⟩ := p
   simp only
   have := (H _ _ _ ho).2
   rw [serR_fuel H ts.length (r.length + 1) _ _ this (by omega)]
   rfl
theorem argsR_eq (fx : Bool) (d : Nat) : argsR fx d = ifR 1 opB (serD (memD fx d) addM cpB .nil) (retR .nil) := by funext ts; rfl
theorem dirsF_fuel {fx : Bool} {d : Nat} : ∀ (f f' : Nat) (acc : List DirT) (ts : List Tok), ts.length < f → ts.length < f' → dirsF fx d f acc ts = dirsF fx d f' acc ts
 | 0, _, _, _, h, _ => absurd h (Nat.not_lt_zero _)
 | _ + 1, 0, _, _, _, h => absurd h (Nat.not_lt_zero _)
 | f + 1, f' + 1, acc, ts, h, h' => by
   rw [dirsF, dirsF]
   split
   · rename_i ha
     have h1 := (at_sfx ha).2
     cases hn : nameR ts.tail with
     | none => rfl
     | some q =>
       obtain ⟨n, r⟩ := q
       have h2 := (name_sfx hn).2
       simp only
       cases hg : argsR fx d r with
       | error x => rfl
       | ok q =>
         obtain ⟨m, r2⟩ := q
         have h3 := (args_sfx hg).length_le
         exact dirsF_fuel f f' _ _ (by omega) (by omega)
   · rfl
def dirsD (fx : Bool) (d : Nat) (acc : List DirT) : Rdr (List DirT) := fun ts => dirsF fx d (ts.length + 1) acc ts
theorem dirsD_eq (fx : Bool) (d : Nat) (acc : List DirT) : dirsD fx d acc = ifR 1 atmB (nmR (fun n => bindR (argsR fx d) fun m => dirsD fx d (acc ++ [(n, m)])) (errR 2)) (retR acc) := by
 funext ts
 unfold dirsD ifR nmR bindR
 rw [dirsF]
 split
 · rename_i ha
   have h1 := (at_sfx ha).2
   cases hn : nameR ts.tail with
   | none => rfl
   | some q =>
     obtain ⟨n, r⟩ := q
     have h2 := (name_sfx hn).2
     simp only
     cases hg : argsR fx d r with
     | error x => rfl
     | ok q =>
       obtain ⟨m, r2⟩ := q
       have h3 := (args_sfx hg).length_le
       exact dirsF_fuel _ _ _ _ (by omega) (by omega)
 · rfl
def bangD (n : ByteArray) (l m : Nat) : Rdr (ByteArray × Nat × Nat) := ifR 1 bB (retR (n, l, m ||| 1)) (retR (n, l, m))
theorem bangD_eq (n : ByteArray) (l m : Nat) (ts : List Tok) : bangD n l m ts = .ok (bangR n l m ts) := by
 unfold bangD ifR bangR
 split
 · rfl
 · rfl
theorem typeR_eq0 : typeR 0 = ifR 1 oB (errR 4) (nmR (fun n => bangD n 0 0) (errR 2)) := by
 funext ts
 unfold ifR nmR
 by_cases h : atB 1 oB ts = true
 · rw [typeR_deep h, if_pos h]; rfl
 · have h' : atB 1 oB ts = false := by simpa using h
   rw [typeR_name h', if_neg h]
   cases nameR ts with
   | none => rfl
   | some q => obtain ⟨n, r⟩ := q; exact (bangD_eq n 0 0 r).symm
theorem typeR_eq (left : Nat) : typeR (left + 1) = ifR 1 oB (bindR (typeR left) fun t => ifR 1 cB (bangD t.1 (t.2.1 + 1) (2 * t.2.2)) (errR 2)) (nmR (fun n => bangD n 0 0) (errR 2)) := by
 funext ts
 unfold ifR nmR bindR
 by_cases h : atB 1 oB ts = true
 · rw [typeR_list h, if_pos h]
   cases typeR left ts.tail with
   | error x => rfl
   | ok q =>
     obtain ⟨⟨n, l, m⟩, r⟩ := q
     simp only
     split
     · exact (bangD_eq _ _ _ _).symm
     · rfl
 · have h' : atB 1 oB ts = false := by simpa using h
   rw [typeR_name h', if_neg h]
   cases nameR ts with
   | none => rfl
   | some q => obtain ⟨n, r⟩ := q; exact (bangD_eq n 0 0 r).symm
theorem inlineR_eq (S : SelsF) (d : Nat) (o : ByteArray) : inlineR S d o = bindR (dirsR false d) fun ds => bindR S fun s => retR (.mk 2 eB eB .nil ds o s) := by
 funext ts
 unfold inlineR bindR
 cases dirsR false d ts with
 | error x => rfl
 | ok q =>
   obtain ⟨ds, r⟩ := q
   simp only
   cases S r <;> rfl
theorem spreadR_eq (S : SelsF) (d : Nat) : spreadR S d = ifR 2 onB (nmR (fun o => inlineR S d o) (errR 2)) (nmR (fun n => bindR (dirsR false d) fun ds => retR (.mk 1 eB n .nil ds eB .nil)) (inlineR S d eB)) := by
 funext ts
 unfold spreadR ifR nmR bindR
 split
 · cases nameR ts.tail <;> rfl
 · cases nameR ts with
   | none => rfl
   | some q =>
     obtain ⟨n, r⟩ := q
     simp only
     cases dirsR false d r <;> rfl
theorem restR_eq (S : SelsF) (d : Nat) (al nm : ByteArray) : restR S d al nm = bindR (argsR false d) fun g => bindR (dirsR false d) fun ds => seeR (atB 1 omB) (bindR S fun s => retR (.mk 0 al nm g ds eB s)) (retR (.mk 0 al nm g ds eB .nil)) := by
 funext ts
 unfold restR bindR seeR
 cases argsR false d ts with
 | error x => rfl
 | ok q =>
   obtain ⟨g, r⟩ := q
   simp only
   cases dirsR false d r with
   | error x => rfl
   | ok q =>
     obtain ⟨ds, r2⟩ := q
     simp only
     split
     · cases S r2 <;> rfl
     · rfl
theorem fieldR_eq (S : SelsF) (d : Nat) : fieldR S d = nmR (fun n => ifR 1 colB (nmR (fun n2 => restR S d n n2) (errR 2)) (restR S d eB n)) (errR 2) := by
 funext ts
 unfold fieldR nmR ifR
 cases nameR ts with
 | none => rfl
 | some q =>
   obtain ⟨n, r⟩ := q
   simp only
   split
   · cases nameR r.tail <;> rfl
   · rfl
theorem selOne_eq (S : SelsF) (d : Nat) : selOne S d = ifR 1 dotB (spreadR S d) (fieldR S d) := by funext ts; rfl
theorem str_sel {S : SelsF} (sS : Str S) (d : Nat) : Str (selOne S d) := fun _ _ _ h => selOne_sfx (fun _ _ _ h => sS _ _ _ h) h
theorem sel_less {S S' : SelsF} {d : Nat} {ts : List Tok} (h : ∀ tq, tq.length < ts.length → S tq = S' tq) : selOne S d ts = selOne S' d ts := by
 have hin : ∀ o tq, tq.length < ts.length → inlineR S d o tq = inlineR S' d o tq := by
   intro o tq hq
   unfold inlineR
   cases hd : dirsR false d tq with
   | error x => rfl
   | ok q =>
     obtain ⟨ds, r⟩ := q
     have := (dirs_sfx hd).length_le
     simp only
     rw [h r (by omega)]
 have hre : ∀ al nm tq, tq.length < ts.length → restR S d al nm tq = restR S' d al nm tq := by
   intro al nm tq hq
   unfold restR
   cases hg : argsR false d tq with
   | error x => rfl
   | ok q =>
     obtain ⟨g, r0⟩ := q
     have h0 := (args_sfx hg).length_le
     simp only
     cases hd : dirsR false d r0 with
     | error x => rfl
     | ok q =>
       obtain ⟨ds, r⟩ := q
       have := (dirs_sfx hd).length_le
       simp only
       rw [h r (by omega)]
 unfold selOne
 split
 · rename_i ha
   have h1 := (at_sfx ha).2
   unfold spreadR
   split
   · rename_i hb
     have h2 := (at_sfx hb).2
     cases hn : nameR ts.tail.tail with
     | none => rfl
     | some q =>
       obtain ⟨o, r⟩ := q
       have := (name_sfx hn).2
       exact hin _ _ (by omega)
   · cases hn : nameR ts.tail with
     | none => exact hin _ _ h1
     | some q => rfl
 · unfold fieldR
   cases hn : nameR ts with
   | none => rfl
   | some q =>
     obtain ⟨n, r⟩ := q
     have h1 := (name_sfx hn).2
     simp only
     split
     · rename_i hb
       have h2 := (at_sfx hb).2
       cases hm : nameR r.tail with
       | none => rfl
       | some q =>
         obtain ⟨n2, r2⟩ := q
         have := (name_sfx hm).2
         exact hre _ _ _ (by omega)
     · exact hre _ _ _ h1
theorem serR_same {α ρ : Type} {one one' : Rdr α} {add : ρ → α → ρ} {e : ByteArray} (H : Str one) : ∀ (f : Nat) (acc : ρ) (ts : List Tok), (∀ tq, tq.length ≤ ts.length → one tq = one' tq) → serR one add e f acc ts = serR one' add e f acc ts
 | 0, _, _, _ => rfl
 | f + 1, acc, ts, h => by
   rw [serR, serR, ← h ts (Nat.le_refl _)]
   cases ho : one ts with
   | error x => rfl
   | ok p =>
     obtain ⟨a, r⟩ := p
     have := (H _ _ _ ho).2
     simp only
     rw [serR_same H f _ r fun tq hq => h tq (by omega)]
theorem sels_fuel : ∀ f : Nat, (∀ d ts f', ts.length < f → f ≤ f' → selsR f d ts = selsR f' d ts) ∧ (∀ d ts f', ts.length < f → f ≤ f' → selR f d ts = selR f' d ts) := by
 intro f
 induction f with
 | zero => exact ⟨fun _ _ _ h _ => absurd h (Nat.not_lt_zero _), fun _ _ _ h _ => absurd h (Nat.not_lt_zero _)⟩
 | succ f ih =>
   obtain ⟨i1, i2⟩ := ih
   refine ⟨fun d ts f' h hf => ?_, fun d ts f' h hf => ?_⟩
   · obtain ⟨g, rfl⟩ : ∃ g, f' = g + 1 := ⟨f' - 1, by omega⟩
     rw [selsR, selsR]
     split
     · rename_i ha
       have h1 := (at_sfx ha).2
       split
       · rfl
       · exact serR_same (fun _ _ _ h => (sels_all f).2 _ _ _ _ h) _ _ _ fun tq hq => i2 _ _ g (by omega) (by omega)
     · rfl
   · obtain ⟨g, rfl⟩ : ∃ g, f' = g + 1 := ⟨f' - 1, by omega⟩
     rw [selR, selR]
     exact sel_less fun tq hq => i1 _ _ g (by omega) (by omega)
def selD (d : Nat) : Rdr SelT := fun ts => selR (ts.length + 1) d ts
theorem selD_eq (d : Nat) : selD d = selOne (selsD d) d := by
 funext ts
 unfold selD
 rw [selR]
 exact sel_less fun tq hq => ((sels_fuel _).1 _ _ _ (Nat.lt_succ_self _) (by omega)).symm
theorem selsD_eq (d : Nat) : selsD d = ifR 1 omB (if d = 16 then errR 4 else serD (selD (d + 1)) addS cmB .nil) (errR 2) := by
 funext ts
 unfold selsD ifR
 rw [selsR]
 split
 · rename_i ha
   have h1 := (at_sfx ha).2
   split
   · rfl
   · exact serR_same (fun _ _ _ h => (sels_all _).2 _ _ _ _ h) _ _ _ fun tq hq => ((sels_fuel _).2 _ _ _ (Nat.lt_succ_self _) (by omega)).symm
 · rfl
theorem str_sels (d : Nat) : Str (selsD d) := fun _ _ _ h => sels_sfx h
theorem str_selD (d : Nat) : Str (selD d) := by rw [selD_eq]; exact str_sel (str_sels d) d
def varA (d : Nat) (n : ByteArray) (t : ByteArray × Nat × Nat) : Rdr VarT := ifR 1 eqB (bindR (valD true d) fun v => retR ⟨n, t.1, t.2.1, t.2.2, true, v⟩) (retR ⟨n, t.1, t.2.1, t.2.2, false, zeroT⟩)
theorem varR_eq (d : Nat) : varR d = ifR 1 dolB (nmR (fun n => ifR 1 colB (bindR (typeR 4) fun t => varA d n t) (errR 2)) (errR 2)) (errR 2) := by
 funext ts
 unfold varR ifR nmR bindR varA ifR bindR
 split
 · cases nameR ts.tail with
   | none => rfl
   | some q =>
     obtain ⟨n, r⟩ := q
     simp only
     split
     · cases typeR 4 r.tail with
       | error x => rfl
       | ok q =>
         obtain ⟨t, r2⟩ := q
         simp only
         split
         · cases valD true d r2.tail <;> rfl
         · rfl
     · rfl
 · rfl
theorem str_var (d : Nat) : Str (varR d) := fun _ _ _ h => var_sfx h
theorem varsR_eq (d : Nat) : varsR d = ifR 1 opB (serD (varR d) addL cpB []) (retR []) := by funext ts; rfl
theorem opRest_eq (kind : Int) (d : Nat) (nm : ByteArray) : opRest kind d nm = bindR (varsR d) fun vs => bindR (dirsR true d) fun ds => bindR (selsD d) fun s => retR ⟨kind, nm, vs, ds, s⟩ := by
 funext ts
 unfold opRest bindR
 cases varsR d ts with
 | error x => rfl
 | ok q =>
   obtain ⟨vs, r⟩ := q
   simp only
   cases dirsR true d r with
   | error x => rfl
   | ok q =>
     obtain ⟨ds, r2⟩ := q
     simp only
     cases selsD d r2 <;> rfl
theorem opR_eq (kind : Int) (d : Nat) : opR kind d = nmR (fun n => opRest kind d n) (opRest kind d eB) := by
 funext ts
 unfold opR nmR
 cases nameR ts <;> rfl
theorem fragR_eq (d : Nat) : fragR d = seeR (atB 2 onB) (errR 2) (nmR (fun n => ifR 2 onB (nmR (fun o => bindR (dirsR true d) fun ds => bindR (selsD d) fun s => retR ⟨n, o, ds, s⟩) (errR 2)) (errR 2)) (errR 2)) := by
 funext ts
 unfold fragR seeR nmR ifR bindR
 split
 · rfl
 · cases nameR ts with
   | none => rfl
   | some q =>
     obtain ⟨n, r⟩ := q
     simp only
     split
     · cases nameR r.tail with
       | none => rfl
       | some q =>
         obtain ⟨o, r2⟩ := q
         simp only
         cases dirsR true d r2 with
         | error x => rfl
         | ok q =>
           obtain ⟨ds, r3⟩ := q
           simp only
           cases selsD d r3 <;> rfl
     · rfl
inductive DefT where
 | op (x : OpT)
 | frag (x : FragT)
def oneD : Rdr DefT :=
 seeR (atB 1 omB) (bindR (selsD 0) fun s => retR (.op ⟨0, eB, [], [], s⟩)) (ifR 2 queryB (bindR (opR 0 0) fun o => retR (.op o)) (ifR 2 mutB (bindR (opR 1 0) fun o => retR (.op o)) (ifR 2 fragB (bindR (fragR 0) fun o => retR (.frag o)) (errR 2))))
def addD (D : DocT) : DefT → DocT
 | .op x => ⟨D.ops ++ [x], D.frags⟩
 | .frag x => ⟨D.ops, D.frags ++ [x]⟩
theorem defR_eq (D : DocT) : defR D = bindR oneD fun x => retR (addD D x) := by
 funext ts
 unfold defR bindR oneD seeR ifR bindR
 split
 · cases selsD 0 ts <;> rfl
 · split
   · cases opR 0 0 ts.tail <;> rfl
   · split
     · cases opR 1 0 ts.tail <;> rfl
     · split
       · cases fragR 0 ts.tail <;> rfl
       · rfl
def defsF : Nat → List Tok → Except Int (List DefT)
 | 0, _ => .error 2
 | f + 1, ts =>
   match oneD ts with
   | .error x => .error x
   | .ok (x, r) => if r.isEmpty = true then .ok [x] else match defsF f r with | .error e => .error e | .ok l => .ok (x :: l)
theorem docF_eq : ∀ (f : Nat) (D : DocT) (ts : List Tok), docF f D ts = (match defsF f ts with | .error e => .error e | .ok l => .ok (l.foldl addD D))
 | 0, _, _ => rfl
 | f + 1, D, ts => by
   rw [docF, defsF, defR_eq]
   unfold bindR
   cases oneD ts with
   | error x => rfl
   | ok q =>
     obtain ⟨x, r⟩ := q
     show (if r.isEmpty = true then .ok (addD D x) else docF f (addD D x) r) = _
     simp only
     split
     · rfl
     · rw [docF_eq f]
       cases defsF f r <;> rfl
def defsD (ts : List Tok) : Except Int (List DefT) := defsF (ts.length + 1) ts
theorem docR_eq (ts : List Tok) : docR ts = (match defsD ts with | .error e => .error e | .ok l => .ok (l.foldl addD ⟨[], []⟩)) := docF_eq _ _ _
def nullT : ByteArray := ⟨#[110, 117, 108, 108]⟩
def trueT : ByteArray := ⟨#[116, 114, 117, 101]⟩
def falseT : ByteArray := ⟨#[102, 97, 108, 115, 101]⟩
def openT : ByteArray := ⟨#[91]⟩
def shutT : ByteArray := ⟨#[93]⟩
def openM : ByteArray := ⟨#[123]⟩
def shutM : ByteArray := ⟨#[125]⟩
def colonT : ByteArray := ⟨#[58]⟩
def dollarT : ByteArray := ⟨#[36]⟩
def itoaT (n : Int) : ByteArray := ⟨(Lib.itoa n).toArray⟩
mutual
def vtok : VT → List (Int × ByteArray)
 | .mk k n s l m =>
   if k = 0 then [(2, nullT)] else if k = 1 then [(2, if n = 1 then trueT else falseT)] else if k = 2 then [(3, itoaT n)]
   else if k = 3 then [(kindL s.data.toList, s)] else if k = 4 then [(5, s)] else if k = 5 then [(2, s)]
   else if k = 6 then (1, openT) :: (vtokL l ++ [(1, shutT)]) else if k = 7 then (1, openM) :: (vtokM m ++ [(1, shutM)])
   else if k = 8 then [(1, dollarT), (2, s)] else []
def vtokL : VL → List (Int × ByteArray)
 | .nil => []
 | .cons v t => vtok v ++ vtokL t
def vtokM : VM → List (Int × ByteArray)
 | .nil => []
 | .cons nm v t => (2, nm) :: (1, colonT) :: (vtok v ++ vtokM t)
end
mutual
def RngV : VT → Prop
 | .mk _ n _ l m => (-9223372036854775808 ≤ n ∧ n ≤ 9223372036854775807) ∧ RngL l ∧ RngM m
def RngL : VL → Prop
 | .nil => True
 | .cons v t => RngV v ∧ RngL t
def RngM : VM → Prop
 | .nil => True
 | .cons _ v t => RngV v ∧ RngM t
end
def cls (t : Int × ByteArray) : Int :=
 if t.1 = 1 then (if t.2.data.toList = [91] then 6 else if t.2.data.toList = [123] then 7 else if t.2.data.toList = [36] then 8 else 9)
 else if t.1 = 2 then (if t.2.data.toList = nullL then 0 else if t.2.data.toList = trueL ∨ t.2.data.toList = falseL then 1 else 5)
 else if t.1 = 3 then (if fits64 (intN t.2.data.toList) = true then 2 else 3)
 else if t.1 = 4 then 3 else 4
theorem ba_ext {a b : ByteArray} (h : a.data.toList = b.data.toList) : a = b := ByteArray.ext (Array.toList_inj.1 h)
theorem sound_kind {k n : Int} {s : List UInt8} {ll ml : Nat} (h : soundB k n s ll ml = true) : k = 0 ∨ k = 1 ∨ k = 2 ∨ k = 3 ∨ k = 4 ∨ k = 5 ∨ k = 6 ∨ k = 7 ∨ k = 8 := by
 unfold soundB at h
 repeat' split at h
 all_goals first | contradiction | omega
theorem sound0 {n : Int} {s : List UInt8} {ll ml : Nat} (h : soundB 0 n s ll ml = true) : n = 0 ∧ s = [] ∧ ll = 0 ∧ ml = 0 := by
 simpa [soundB, and_assoc] using h
theorem sound1 {n : Int} {s : List UInt8} {ll ml : Nat} (h : soundB 1 n s ll ml = true) : (n = 0 ∨ n = 1) ∧ s = [] ∧ ll = 0 ∧ ml = 0 := by
 simpa [soundB, and_assoc] using h
theorem sound2 {n : Int} {s : List UInt8} {ll ml : Nat} (h : soundB 2 n s ll ml = true) : s = [] ∧ ll = 0 ∧ ml = 0 := by
 simpa [soundB, and_assoc] using h
theorem sound3 {n : Int} {s : List UInt8} {ll ml : Nat} (h : soundB 3 n s ll ml = true) : n = 0 ∧ numB s = true ∧ ll = 0 ∧ ml = 0 := by
 simpa [soundB, and_assoc] using h
theorem sound4 {n : Int} {s : List UInt8} {ll ml : Nat} (h : soundB 4 n s ll ml = true) : n = 0 ∧ goodB s = true ∧ ll = 0 ∧ ml = 0 := by
 rw [soundB, if_neg (by omega), if_neg (by omega), if_neg (by omega), if_neg (by omega), if_pos rfl] at h
 simpa only [Bool.and_eq_true, beq_iff_eq, and_assoc] using h
theorem sound5 {n : Int} {s : List UInt8} {ll ml : Nat} (h : soundB 5 n s ll ml = true) : n = 0 ∧ enumB s = true ∧ ll = 0 ∧ ml = 0 := by
 simpa [soundB, and_assoc] using h
theorem sound6 {n : Int} {s : List UInt8} {ll ml : Nat} (h : soundB 6 n s ll ml = true) : n = 0 ∧ s = [] ∧ ml = 0 := by
 simpa [soundB, and_assoc] using h
theorem sound7 {n : Int} {s : List UInt8} {ll ml : Nat} (h : soundB 7 n s ll ml = true) : n = 0 ∧ s = [] ∧ ll = 0 := by
 simpa [soundB, and_assoc] using h
theorem sound8 {n : Int} {s : List UInt8} {ll ml : Nat} (h : soundB 8 n s ll ml = true) : n = 0 ∧ nameB s = true ∧ ll = 0 ∧ ml = 0 := by
 rw [soundB, if_neg (by omega), if_neg (by omega), if_neg (by omega), if_neg (by omega), if_neg (by omega), if_neg (by omega), if_neg (by omega), if_neg (by omega), if_pos rfl] at h
 simpa only [Bool.and_eq_true, beq_iff_eq, and_assoc] using h
theorem vtok0 (n : Int) (s : ByteArray) (l : VL) (m : VM) : vtok (.mk 0 n s l m) = [(2, nullT)] := by rw [vtok, if_pos rfl]
theorem vtok1 (n : Int) (s : ByteArray) (l : VL) (m : VM) : vtok (.mk 1 n s l m) = [(2, if n = 1 then trueT else falseT)] := by rw [vtok, if_neg (by omega), if_pos rfl]
theorem vtok2 (n : Int) (s : ByteArray) (l : VL) (m : VM) : vtok (.mk 2 n s l m) = [(3, itoaT n)] := by rw [vtok, if_neg (by omega), if_neg (by omega), if_pos rfl]
theorem vtok3 (n : Int) (s : ByteArray) (l : VL) (m : VM) : vtok (.mk 3 n s l m) = [(kindL s.data.toList, s)] := by rw [vtok, if_neg (by omega), if_neg (by omega), if_neg (by omega), if_pos rfl]
theorem vtok4 (n : Int) (s : ByteArray) (l : VL) (m : VM) : vtok (.mk 4 n s l m) = [(5, s)] := by rw [vtok, if_neg (by omega), if_neg (by omega), if_neg (by omega), if_neg (by omega), if_pos rfl]
theorem vtok5 (n : Int) (s : ByteArray) (l : VL) (m : VM) : vtok (.mk 5 n s l m) = [(2, s)] := by rw [vtok, if_neg (by omega), if_neg (by omega), if_neg (by omega), if_neg (by omega), if_neg (by omega), if_pos rfl]
theorem vtok6 (n : Int) (s : ByteArray) (l : VL) (m : VM) : vtok (.mk 6 n s l m) = (1, openT) :: (vtokL l ++ [(1, shutT)]) := by rw [vtok, if_neg (by omega), if_neg (by omega), if_neg (by omega), if_neg (by omega), if_neg (by omega), if_neg (by omega), if_pos rfl]
theorem vtok7 (n : Int) (s : ByteArray) (l : VL) (m : VM) : vtok (.mk 7 n s l m) = (1, openM) :: (vtokM m ++ [(1, shutM)]) := by rw [vtok, if_neg (by omega), if_neg (by omega), if_neg (by omega), if_neg (by omega), if_neg (by omega), if_neg (by omega), if_neg (by omega), if_pos rfl]
theorem vtok8 (n : Int) (s : ByteArray) (l : VL) (m : VM) : vtok (.mk 8 n s l m) = [(1, dollarT), (2, s)] := by rw [vtok, if_neg (by omega), if_neg (by omega), if_neg (by omega), if_neg (by omega), if_neg (by omega), if_neg (by omega), if_neg (by omega), if_neg (by omega), if_pos rfl]
theorem num_cases {l : List UInt8} (h : numB l = true) : kindL l = 4 ∨ kindL l = 3 ∧ fits64 (intN l) = false := by
 simpa [numB] using h
theorem enum_cases {l : List UInt8} (h : enumB l = true) : nameB l = true ∧ l ≠ nullL ∧ l ≠ trueL ∧ l ≠ falseL := by
 simpa [enumB, and_assoc] using h
theorem fits_of {n : Int} (h : -9223372036854775808 ≤ n ∧ n ≤ 9223372036854775807) : fits64 n = true := decide_eq_true h
theorem head_cls (p : List UInt8 → Bool) (k n : Int) (s : ByteArray) (l : VL) (m : VM) (hf : fitV p (.mk k n s l m) = true) (hr : RngV (.mk k n s l m)) : (0 ≤ k ∧ k ≤ 8) ∧ ∃ t r, vtok (.mk k n s l m) = t :: r ∧ cls t = k := by
 rw [fitV, Bool.and_eq_true, Bool.and_eq_true] at hf
 have hs := hf.1.1
 unfold RngV at hr
 rcases sound_kind hs with rfl | rfl | rfl | rfl | rfl | rfl | rfl | rfl | rfl
 · exact ⟨by omega, _, _, vtok0 _ _ _ _, rfl⟩
 · refine ⟨by omega, _, _, vtok1 _ _ _ _, ?_⟩
   rcases (sound1 hs).1 with h | h
   · rw [h]; rfl
   · rw [h]; rfl
 · refine ⟨by omega, _, _, vtok2 _ _ _ _, ?_⟩
   show (if fits64 (intN (itoaT n).data.toList) = true then (2 : Int) else 3) = 2
   have : (itoaT n).data.toList = Lib.itoa n := by simp [itoaT]
   rw [this, int_itoa, if_pos (fits_of hr.1)]
 · refine ⟨by omega, _, _, vtok3 _ _ _ _, ?_⟩
   rcases num_cases (sound3 hs).2.1 with h | ⟨h, h'⟩
   · rw [h]; rfl
   · rw [h]
     show (if fits64 (intN s.data.toList) = true then (2 : Int) else 3) = 3
     rw [h', if_neg (by simp)]
 · exact ⟨by omega, _, _, vtok4 _ _ _ _, rfl⟩
 · refine ⟨by omega, _, _, vtok5 _ _ _ _, ?_⟩
   obtain ⟨_, h1, h2, h3⟩ := enum_cases (sound5 hs).2.1
   show (if s.data.toList = nullL then (0 : Int) else if s.data.toList = trueL ∨ s.data.toList = falseL then 1 else 5) = 5
   rw [if_neg h1, if_neg (by rintro (h | h) <;> contradiction)]
 · exact ⟨by omega, _, _, vtok6 _ _ _ _, rfl⟩
 · exact ⟨by omega, _, _, vtok7 _ _ _ _, rfl⟩
 · exact ⟨by omega, _, _, vtok8 _ _ _ _, rfl⟩
theorem empty_of {s : ByteArray} (h : s.data.toList = []) : s = ⟨#[]⟩ := ba_ext (by rw [h])
def VM.cat : VM → VM → VM
 | .nil, r => r
 | .cons nm v t, r => .cons nm v (t.cat r)
theorem VL.snoc_app : ∀ (a : VL) (v : VT) (t : VL), (a.snoc v).app t = a.app (.cons v t)
 | .nil, _, _ => rfl
 | .cons u a, v, t => by rw [VL.snoc, VL.app, VL.app, VL.snoc_app a v t]
theorem VM.snoc_cat : ∀ (a : VM) (nm : ByteArray) (v : VT) (t : VM), (a.snoc nm v).cat t = a.cat (.cons nm v t)
 | .nil, _, _, _ => rfl
 | .cons x u a, nm, v, t => by rw [VM.snoc, VM.cat, VM.cat, VM.snoc_cat a nm v t]
theorem VM.cat_nil : ∀ a : VM, a.cat .nil = a
 | .nil => rfl
 | .cons x u a => by rw [VM.cat, VM.cat_nil a]
theorem at_lit {a s : ByteArray} {b : Bool} (r : List Tok) (h : (a.data.toList == s.data.toList) = b) : atB 1 s ((1, a) :: r) = b := by
 unfold atB
 simp only
 rw [Lib.toList_data, Lib.toList_data, h]
 simp
theorem allV_flat {k : Int} (n : Int) (s : ByteArray) (l : VL) (m : VM) (h6 : k ≠ 6) (h7 : k ≠ 7) (h8 : k ≠ 8) : allV (.mk k n s l m) = [] := by
 rw [allV]
 simp [h6, h7, h8]
theorem at_not {k : Int} {s : ByteArray} {t : Tok} (r : List Tok) (h : t.1 ≠ k) : atB k s (t :: r) = false := by
 unfold atB
 simp [h]
theorem valD_word (fx : Bool) (d : Nat) {t : Tok} (r : List Tok) (h : t.1 ≠ 1) : valD fx d (t :: r) = oneR (t :: r) := by
 rw [valD_eq]
 unfold ifR
 rw [if_neg (by rw [at_not r h]; simp), if_neg (by rw [at_not r h]; simp)]
 cases fx
 · rw [if_neg (by simp)]
   unfold varV ifR
   rw [if_neg (by rw [at_not r h]; simp)]
 · rw [if_pos rfl]
theorem one_of {t : Tok} {k n : Int} {s : ByteArray} (r : List Tok) (h : singleR t = some (k, n, s)) : oneR (t :: r) = .ok (.mk k n s .nil .nil, r) := by
 show (match singleR t with | none => (.error 2 : Except Int (VT × List Tok)) | some (k, n, s) => .ok (.mk k n s .nil .nil, r)) = _
 rw [h]
theorem word_read (fx : Bool) (d : Nat) {t : Tok} {k n : Int} {s : ByteArray} (r : List Tok) (h1 : t.1 ≠ 1) (h : singleR t = some (k, n, s)) : valD fx d (t :: r) = .ok (.mk k n s .nil .nil, r) := by
 rw [valD_word fx d r h1, one_of r h]
theorem dol_free (d : Nat) (s : ByteArray) (r : List Tok) : valD false d ((1, dollarT) :: (2, s) :: r) = .ok (.mk 8 0 s .nil .nil, r) := by
 rw [valD_eq]
 unfold ifR
 rw [if_neg (by rw [at_lit (b := false) _ (by decide)]; simp), if_neg (by rw [at_lit (b := false) _ (by decide)]; simp), if_neg (by simp)]
 unfold varV ifR
 rw [if_pos (at_lit _ (by decide))]
 rfl
theorem dol_fixed (d : Nat) (r : List Tok) : valD true d ((1, dollarT) :: r) = .error 2 := by
 rw [valD_eq]
 unfold ifR
 rw [if_neg (by rw [at_lit (b := false) _ (by decide)]; simp), if_neg (by rw [at_lit (b := false) _ (by decide)]; simp), if_pos rfl]
 rfl
theorem list_read (fx : Bool) (d : Nat) (ts : List Tok) (h : d ≠ 16) : valD fx d ((1, openT) :: ts) = bindR (itemsD fx (d + 1) .nil) (fun l => retR (.mk 6 0 ⟨#[]⟩ l .nil)) ts := by
 rw [valD_eq]
 unfold ifR
 rw [if_pos (at_lit _ (by decide)), if_neg h]
 rfl
theorem map_read (fx : Bool) (d : Nat) (ts : List Tok) (h : d ≠ 16) : valD fx d ((1, openM) :: ts) = bindR (memsD fx (d + 1) .nil) (fun m => retR (.mk 7 0 ⟨#[]⟩ .nil m)) ts := by
 rw [valD_eq]
 unfold ifR
 rw [if_neg (by rw [at_lit (b := false) _ (by decide)]; simp), if_pos (at_lit _ (by decide)), if_neg h]
 rfl
theorem items_end (fx : Bool) (d : Nat) (acc : VL) (r : List Tok) : itemsD fx d acc ((1, shutT) :: r) = .ok (acc, r) := by
 rw [itemsD_eq]
 unfold ifR
 rw [if_pos (at_lit _ (by decide))]
 rfl
theorem mems_end (fx : Bool) (d : Nat) (acc : VM) (r : List Tok) : memsD fx d acc ((1, shutM) :: r) = .ok (acc, r) := by
 rw [memsD_eq]
 unfold ifR
 rw [if_pos (at_lit _ (by decide))]
 rfl
theorem not_shut {v : VT} (hf : fitV nameB v = true) (hr : RngV v) (r : List Tok) : atB 1 cB (vtok v ++ r) = false := by
 obtain ⟨k, n, s, l, m⟩ := v
 obtain ⟨hk, t, q, ht, hc⟩ := head_cls nameB k n s l m hf hr
 rw [ht, List.cons_append]
 cases ha : atB 1 cB (t :: (q ++ r)) with
 | false => rfl
 | true =>
   unfold atB at ha
   simp only [Bool.and_eq_true, beq_iff_eq] at ha
   have h2 : t.2.data.toList = [93] := by
    have := ha.2
    rw [Lib.toList_data, Lib.toList_data] at this
    exact this
   unfold cls at hc
   rw [if_pos ha.1, h2, if_neg (by decide), if_neg (by decide), if_neg (by decide)] at hc
   omega
theorem items_next (fx : Bool) (d : Nat) (acc : VL) {ts : List Tok} (h : atB 1 cB ts = false) : itemsD fx d acc ts = bindR (valD fx d) (fun v => itemsD fx d (acc.snoc v)) ts := by
 rw [itemsD_eq]
 unfold ifR
 rw [if_neg (by rw [h]; simp)]
theorem mems_next (fx : Bool) (d : Nat) (acc : VM) (nm : ByteArray) (ts : List Tok) : memsD fx d acc ((2, nm) :: (1, colonT) :: ts) = bindR (valD fx d) (fun v => memsD fx d (acc.snoc nm v)) ts := by
 rw [memsD_eq]
 unfold ifR
 rw [if_neg (by rw [at_not _ (by simp)]; simp)]
 unfold bindR
 rw [memD_eq]
 unfold nmR
 rw [name_cons, if_pos rfl]
 simp only
 unfold ifR
 rw [if_pos (at_lit _ (by decide))]
 unfold bindR retR
 simp only [List.tail_cons]
 cases valD fx d ts <;> rfl
def ans {α : Type} (fx : Bool) (vs : List ByteArray) (a : α) (r : List Tok) : Except Int (α × List Tok) := if fx = true ∧ vs ≠ [] then .error 2 else .ok (a, r)
theorem ans_none {α : Type} (fx : Bool) (a : α) (r : List Tok) : ans fx [] a r = .ok (a, r) := by unfold ans; rw [if_neg (by simp)]
mutual
theorem vread (fx : Bool) : ∀ (v : VT) (d : Nat) (r : List Tok), fitV nameB v = true → RngV v → d + depV v ≤ 16 → valD fx d (vtok v ++ r) = ans fx (allV v) v r
 | .mk k n s l m, d, r, hf, hr, hd => by
   rw [fitV, Bool.and_eq_true, Bool.and_eq_true] at hf
   obtain ⟨⟨hs, hl⟩, hm⟩ := hf
   unfold RngV at hr
   rw [depV] at hd
   rcases sound_kind hs with rfl | rfl | rfl | rfl | rfl | rfl | rfl | rfl | rfl
   · obtain ⟨rfl, h2, h3, h4⟩ := sound0 hs
     rw [vtok0, VL.nil_of_len h3, VM.nil_of_len h4, empty_of h2, allV_flat _ _ _ _ (by omega) (by omega) (by omega), ans_none]
     exact word_read fx d r (by simp) rfl
   · obtain ⟨h1, h2, h3, h4⟩ := sound1 hs
     rw [vtok1, VL.nil_of_len h3, VM.nil_of_len h4, empty_of h2, allV_flat _ _ _ _ (by omega) (by omega) (by omega), ans_none]
     rcases h1 with rfl | rfl
     · exact word_read fx d r (by simp) rfl
     · exact word_read fx d r (by simp) rfl
   · obtain ⟨h2, h3, h4⟩ := sound2 hs
     rw [vtok2, VL.nil_of_len h3, VM.nil_of_len h4, empty_of h2, allV_flat _ _ _ _ (by omega) (by omega) (by omega), ans_none]
     refine word_read fx d r (by simp) ?_
     have : (itoaT n).data.toList = Lib.itoa n := by simp [itoaT]
     unfold singleR
     rw [if_neg (by simp), if_pos rfl]
     simp only
     rw [this, int_itoa, if_pos (fits_of hr.1)]
   · obtain ⟨rfl, h2, h3, h4⟩ := sound3 hs
     rw [vtok3, VL.nil_of_len h3, VM.nil_of_len h4, allV_flat _ _ _ _ (by omega) (by omega) (by omega), ans_none]
     rcases num_cases h2 with h | ⟨h, h'⟩
     · rw [h]
       exact word_read fx d r (by simp) rfl
     · rw [h]
       refine word_read fx d r (by simp) ?_
       unfold singleR
       rw [if_neg (by simp), if_pos rfl]
       simp only
       rw [h', if_neg (by simp)]
   · obtain ⟨rfl, h2, h3, h4⟩ := sound4 hs
     rw [vtok4, VL.nil_of_len h3, VM.nil_of_len h4, allV_flat _ _ _ _ (by omega) (by omega) (by omega), ans_none]
     exact word_read fx d r (by simp) rfl
   · obtain ⟨rfl, h2, h3, h4⟩ := sound5 hs
     rw [vtok5, VL.nil_of_len h3, VM.nil_of_len h4, allV_flat _ _ _ _ (by omega) (by omega) (by omega), ans_none]
     refine word_read fx d r (by simp) ?_
     obtain ⟨_, e1, e2, e3⟩ := enum_cases h2
     unfold singleR
     rw [if_pos rfl]
     unfold wordR
     simp only
     rw [if_neg e1, if_neg e2, if_neg e3]
   · obtain ⟨rfl, h2, h4⟩ := sound6 hs
     rw [if_pos rfl] at hd
     rw [vtok6, VM.nil_of_len h4, empty_of h2, allV, if_neg (by omega), if_pos rfl, List.cons_append, List.append_assoc, list_read fx d _ (by omega)]
     unfold bindR
     rw [List.singleton_append, lread fx l .nil (d + 1) r hl hr.2.1 (by omega)]
     unfold ans
     by_cases h : fx = true ∧ allL l ≠ []
     · rw [if_pos h, if_pos h]
     · rw [if_neg h, if_neg h]; rfl
   · obtain ⟨rfl, h2, h3⟩ := sound7 hs
     rw [if_neg (by omega), if_pos rfl] at hd
     rw [vtok7, VL.nil_of_len h3, empty_of h2, allV, if_neg (by omega), if_neg (by omega), if_pos rfl, List.cons_append, List.append_assoc, map_read fx d _ (by omega)]
     unfold bindR
     rw [List.singleton_append, mread fx m .nil (d + 1) r hm hr.2.2 (by omega)]
     unfold ans
     by_cases h : fx = true ∧ allM m ≠ []
     · rw [if_pos h, if_pos h]
     · rw [if_neg h, if_neg h]; rfl
   · obtain ⟨rfl, h2, h3, h4⟩ := sound8 hs
     rw [vtok8, VL.nil_of_len h3, VM.nil_of_len h4, allV, if_pos rfl]
     cases fx with
     | true => exact dol_fixed d _
     | false => exact dol_free d s r
theorem lread (fx : Bool) : ∀ (l acc : VL) (d : Nat) (r : List Tok), fitL nameB l = true → RngL l → d + depL l ≤ 16 → itemsD fx d acc (vtokL l ++ (1, shutT) :: r) = ans fx (allL l) (acc.app l) r
 | .nil, acc, d, r, _, _, _ => by
   rw [vtokL, List.nil_append, items_end, allL, ans_none, VL.app_nil]
 | .cons v t, acc, d, r, hf, hr, hd => by
   rw [fitL, Bool.and_eq_true] at hf
   unfold RngL at hr
   rw [depL] at hd
   rw [vtokL, List.append_assoc, items_next fx d acc (not_shut hf.1 hr.1 _)]
   unfold bindR
   rw [vread fx v d _ hf.1 hr.1 (by omega)]
   by_cases h1 : fx = true ∧ allV v ≠ []
   · have h2 : fx = true ∧ allL (.cons v t) ≠ [] := ⟨h1.1, by rw [allL]; intro e; exact h1.2 (List.append_eq_nil_iff.1 e).1⟩
     unfold ans
     rw [if_pos h1, if_pos h2]
   · have e1 : ans fx (allV v) v (vtokL t ++ (1, shutT) :: r) = .ok (v, vtokL t ++ (1, shutT) :: r) := by unfold ans; rw [if_neg h1]
     rw [e1]
     show itemsD fx d (acc.snoc v) (vtokL t ++ (1, shutT) :: r) = _
     rw [lread fx t (acc.snoc v) d r hf.2 hr.2 (by omega), VL.snoc_app, allL]
     unfold ans
     cases fx with
     | false => rfl
     | true =>
       have : allV v = [] := by by_cases h : allV v = []; exact h; exact absurd ⟨rfl, h⟩ h1
       rw [this, List.nil_append]
theorem mread (fx : Bool) : ∀ (m acc : VM) (d : Nat) (r : List Tok), fitM nameB m = true → RngM m → d + depM m ≤ 16 → memsD fx d acc (vtokM m ++ (1, shutM) :: r) = ans fx (allM m) (acc.cat m) r
 | .nil, acc, d, r, _, _, _ => by
   rw [vtokM, List.nil_append, mems_end, allM, ans_none, VM.cat_nil]
 | .cons nm v t, acc, d, r, hf, hr, hd => by
   rw [fitM, Bool.and_eq_true, Bool.and_eq_true] at hf
   unfold RngM at hr
   rw [depM] at hd
   rw [vtokM, List.cons_append, List.cons_append, List.append_assoc, mems_next]
   unfold bindR
   rw [vread fx v d _ hf.1.2 hr.1 (by omega)]
   by_cases h1 : fx = true ∧ allV v ≠ []
   · have h2 : fx = true ∧ allM (.cons nm v t) ≠ [] := ⟨h1.1, by rw [allM]; intro e; exact h1.2 (List.append_eq_nil_iff.1 e).1⟩
     unfold ans
     rw [if_pos h1, if_pos h2]
   · have e1 : ans fx (allV v) v (vtokM t ++ (1, shutM) :: r) = .ok (v, vtokM t ++ (1, shutM) :: r) := by unfold ans; rw [if_neg h1]
     rw [e1]
     show memsD fx d (acc.snoc nm v) (vtokM t ++ (1, shutM) :: r) = _
     rw [mread fx t (acc.snoc nm v) d r hf.2 hr.2 (by omega), VM.snoc_cat, allM]
     unfold ans
     cases fx with
     | false => rfl
     | true =>
       have : allV v = [] := by by_cases h : allV v = []; exact h; exact absurd ⟨rfl, h⟩ h1
       rw [this, List.nil_append]
end
open Go.RowKit
def Post {α : Type} (r d : Nat) (w : World) (lay : World → (Nat → Prop) → α → Value → Prop) (R : Except Int (α × List Tok)) (e : Ending) (w' : World) : Prop :=
 match R with
 | .ok (a, ts') => (∃ v, e = .returned v ∧ lay w' (Fresh w w') a v) ∧ Rd w' r ts' d ∧ Moved r w w'
 | .error x => e = PanicE x ∧ Moved r w w'
def layS {α : Type} (enc : α → TrS) (w : World) (P : Nat → Prop) (a : α) (v : Value) : Prop := ∃ cs : List Value, v = .agg cs.toArray ∧ TS w P (enc a) cs
def layR {α : Type} (enc : α → TrL) (w : World) (P : Nat → Prop) (a : α) (v : Value) : Prop := TP w P (.row (enc a)) v
theorem per {α : Type} {r d : Nat} {w w' : World} {lay : World → (Nat → Prop) → α → Value → Prop} {R : Except Int (α × List Tok)} {x : Int} (hR : R = .error x) (m : Moved r w w') : Post r d w lay R (PanicE x) w' := by subst hR; exact ⟨rfl, m⟩
theorem post_ok {α : Type} {r d : Nat} {w w' : World} {lay : World → (Nat → Prop) → α → Value → Prop} {R : Except Int (α × List Tok)} {a : α} {ts' : List Tok} {v : Value} (hR : R = .ok (a, ts')) (hl : lay w' (Fresh w w') a v) (hr : Rd w' r ts' d) (m : Moved r w w') : Post r d w lay R (.returned v) w' := by subst hR; exact ⟨⟨v, rfl, hl⟩, hr, m⟩
theorem of_err {α : Type} {r d : Nat} {w w' : World} {lay : World → (Nat → Prop) → α → Value → Prop} {x : Int} {e : Ending} (h : Post r d w lay (.error x) e w') : e = PanicE x ∧ Moved r w w' := h
theorem of_ok {α : Type} {r d : Nat} {w w' : World} {lay : World → (Nat → Prop) → α → Value → Prop} {a : α} {ts' : List Tok} {e : Ending} (h : Post r d w lay (.ok (a, ts')) e w') : (∃ v, e = .returned v ∧ lay w' (Fresh w w') a v) ∧ Rd w' r ts' d ∧ Moved r w w' := h
theorem skip_yes {k : Int} {s : ByteArray} {ts : List Tok} (h : atB k s ts = true) : skipT k s ts = ts.tail := by unfold skipT; rw [if_pos h]
theorem skip_no {k : Int} {s : ByteArray} {ts : List Tok} (h : atB k s ts = false) : skipT k s ts = ts := by unfold skipT; rw [h]; rfl
theorem TS.nil (w : World) (P : Nat → Prop) : TS w P .nil [] := by unfold TS; rfl
theorem TS.str {w : World} {P : Nat → Prop} {s : ByteArray} {t : TrS} {cs : List Value} (hs : s.size ≤ 9000) (h : TS w P t cs) : TS w P (.cons (.one (.string s)) t) (.string s :: cs) := by
 rw [TS]; exact ⟨_, _, rfl, by unfold TP; exact ⟨rfl, by show s.size ≤ _; omega⟩, h⟩
theorem TS.int {w : World} {P : Nat → Prop} {z : Int} {t : TrS} {cs : List Value} (h : TS w P t cs) : TS w P (.cons (.one (.int .i64 z)) t) (.int .i64 z :: cs) := by
 rw [TS]; exact ⟨_, _, rfl, by unfold TP; exact ⟨rfl, trivial⟩, h⟩
theorem TS.bool {w : World} {P : Nat → Prop} {b : Bool} {t : TrS} {cs : List Value} (h : TS w P t cs) : TS w P (.cons (.one (.bool b)) t) (.bool b :: cs) := by
 rw [TS]; exact ⟨_, _, rfl, by unfold TP; exact ⟨rfl, trivial⟩, h⟩
theorem TS.row {w : World} {P : Nat → Prop} {l : TrL} {c : Value} {t : TrS} {cs : List Value} (hl : TP w P (.row l) c) (h : TS w P t cs) : TS w P (.cons (.row l) t) (c :: cs) := by
 rw [TS]; exact ⟨_, _, rfl, hl, h⟩
theorem TP.none (w : World) (P : Nat → Prop) : TP w P (.row .nil) (.slice none 0 0) := by
 unfold TP; exact ⟨_, _, rfl, Nat.zero_le _, by unfold RowT; trivial⟩
theorem row_open {α : Type} {enc : α → TrL} {w : World} {P : Nat → Prop} {a : α} {v : Value} (h : layR enc w P a v) : ∃ A c, v = .slice A (enc a).len c ∧ TP w P (.row (enc a)) (.slice A (enc a).len c) := by
 have h0 := h
 unfold layR TP at h0
 obtain ⟨A, c, rfl, _⟩ := h0
 exact ⟨A, c, rfl, h⟩
def setAll (W : World) (b : Nat) : Nat → List Value → World
 | _, [] => W
 | i, x :: t => setAll (W.setCell ⟨b, i, none⟩ x) b (i + 1) t
theorem setAll_size (b : Nat) : ∀ (xs : List Value) (i : Nat) (W : World), (setAll W b i xs).heap.size = W.heap.size
 | [], _, _ => rfl
 | x :: t, i, W => by rw [setAll, setAll_size b t]; simp [World.setCell]
theorem setAll_other {b k : Nat} (hk : k ≠ b) : ∀ (xs : List Value) (i : Nat) (W : World), (setAll W b i xs).heap[k]? = W.heap[k]?
 | [], _, _ => rfl
 | x :: t, i, W => by rw [setAll, setAll_other hk t, Below.heap_setCell _ _ _ _ hk]
theorem setAll_heap {b : Nat} {t : TypeId} : ∀ (xs : List Value) (pre : List Value) (ys : List Value) (W : World), ys.length = xs.length → W.heap[b]? = some (.cells (pre ++ ys).toArray t (0, 0)) → (setAll W b pre.length xs).heap[b]? = some (.cells (pre ++ xs).toArray t (0, 0))
 | [], pre, ys, W, hl, h => by
   have : ys = [] := List.eq_nil_of_length_eq_zero hl
   subst this
   exact h
 | x :: xs, pre, ys, W, hl, h => by
   cases ys with
   | nil => cases hl
   | cons y ys =>
     rw [setAll]
     have h2 := heap_setCell_same W b pre.length _ t x h
     have e : ((pre ++ y :: ys).toArray.setIfInBounds pre.length x) = ((pre ++ [x]) ++ ys).toArray := by
      simp
     rw [e] at h2
     have := setAll_heap xs (pre ++ [x]) ys (W.setCell ⟨b, pre.length, none⟩ x) (by simpa using hl) h2
     rw [List.length_append, List.length_singleton] at this
     rw [this]; simp
theorem setAll_row {b : Nat} {t : TypeId} {xs ys : List Value} {W : World} (hl : ys.length = xs.length) (h : W.heap[b]? = some (.cells ys.toArray t (0, 0))) : (setAll W b 0 xs).heap[b]? = some (.cells xs.toArray t (0, 0)) :=
 setAll_heap xs [] ys W hl h
theorem Moved.setAll {r b : Nat} {w : World} (hb : w.heap.size ≤ b) : ∀ (xs : List Value) (i : Nat) (W : World), Moved r w W → Moved r w (setAll W b i xs)
 | [], _, _, h => h
 | x :: t, i, W, h => by rw [Proofs.YtpkmbhnikilihaaGreatDoor.setAll]; exact Moved.setAll hb t _ _ (h.put hb)
theorem Rd.setAll {r b : Nat} {ts : List Tok} {d : Nat} (hb : r < b) : ∀ (xs : List Value) (i : Nat) (W : World), Rd W r ts d → Rd (setAll W b i xs) r ts d
 | [], _, _, h => h
 | x :: t, i, W, h => by rw [Proofs.YtpkmbhnikilihaaGreatDoor.setAll]; exact Rd.setAll hb t _ _ (h.set hb)
theorem below_setAll {B b : Nat} {W : World} (hb : B ≤ b) : ∀ (xs : List Value) (i : Nat) (W' : World), Below B W W' → Below B W (setAll W' b i xs)
 | [], _, _, h => h
 | x :: t, i, W', h => by rw [Proofs.YtpkmbhnikilihaaGreatDoor.setAll]; exact below_setAll hb t _ _ (h.setCell (p := ⟨b, i, none⟩) hb x)
structure S0 (w : World) (r : Nat) (W : World) (o : Obj) (ts : List Tok) (d : Nat) : Prop where
 res : W.heap[w.heap.size]? = some o
 mv : Moved r w W
 hr : r < w.heap.size
 rd : Rd W r ts d
 k : KRd r W
theorem S0.lt {w : World} {r : Nat} {W : World} {o : Obj} {ts : List Tok} {d : Nat} (h : S0 w r W o ts d) : w.heap.size < W.heap.size := (Array.getElem?_eq_some_iff.1 h.res).1
theorem S0.start {w : World} {r : Nat} {ts : List Tok} {d : Nat} (hR : Rd w r ts d) (hK : KRd r w) (cs : Array Value) (t : TypeId) : S0 w r (w.alloc (.cells cs t)) (.cells cs t (0, 0)) ts d :=
 ⟨heap_alloc_new _ _, Moved.of_below (blw _ _), hR.lt, hR.below (blw _ _), hK.moved (Moved.of_below (blw _ _))⟩
theorem S0.next {w : World} {r : Nat} {W W' : World} {o : Obj} {ts ts' : List Tok} {d d' : Nat} (h : S0 w r W o ts d) (rd : Rd W' r ts' d') (m : Moved r W W') : S0 w r W' o ts' d' :=
 ⟨m.keep h.res (by have := h.hr; omega), h.mv.trans m, h.hr, rd, h.k.moved m⟩
structure S1 (w : World) (r : Nat) (W : World) (o : Obj) (b : Nat) (o1 : Obj) (ts : List Tok) (d : Nat) : Prop where
 res : W.heap[w.heap.size]? = some o
 loc : W.heap[b]? = some o1
 bl : w.heap.size < b
 mv : Moved r w W
 hr : r < w.heap.size
 rd : Rd W r ts d
 k : KRd r W
theorem S1.blt {w : World} {r : Nat} {W : World} {o : Obj} {b : Nat} {o1 : Obj} {ts : List Tok} {d : Nat} (h : S1 w r W o b o1 ts d) : b < W.heap.size := (Array.getElem?_eq_some_iff.1 h.loc).1
theorem S1.rb {w : World} {r : Nat} {W : World} {o : Obj} {b : Nat} {o1 : Obj} {ts : List Tok} {d : Nat} (h : S1 w r W o b o1 ts d) : r < b := Nat.lt_trans h.hr h.bl
theorem S1.of {w : World} {r : Nat} {W W' : World} {o o1 : Obj} {ts : List Tok} {d : Nat} (h : S0 w r W o ts d) (hl : W'.heap[W.heap.size]? = some o1) (hb : Below W.heap.size W W') : S1 w r W' o W.heap.size o1 ts d :=
 ⟨(hb.block _ h.lt).trans h.res, hl, h.lt, h.mv.trans (Moved.of_below hb), h.hr, h.rd.below hb, h.k.moved (Moved.of_below hb)⟩
theorem S1.make {w : World} {r : Nat} {W : World} {o : Obj} {ts : List Tok} {d : Nat} (h : S0 w r W o ts d) (cs : Array Value) (t : TypeId) : S1 w r (W.alloc (.cells cs t)) o W.heap.size (.cells cs t (0, 0)) ts d :=
 S1.of h (heap_alloc_new _ _) (blw _ _)
theorem S1.next {w : World} {r : Nat} {W W' : World} {o : Obj} {b : Nat} {o1 : Obj} {ts ts' : List Tok} {d d' : Nat} (h : S1 w r W o b o1 ts d) (rd : Rd W' r ts' d') (m : Moved r W W') : S1 w r W' o b o1 ts' d' :=
 ⟨m.keep h.res (by have := h.hr; omega), m.keep h.loc (by have := h.rb; omega), h.bl, h.mv.trans m, h.hr, rd, h.k.moved m⟩
theorem S1.put {w : World} {r : Nat} {W : World} {o : Obj} {b : Nat} {cs : Array Value} {t : TypeId} {ts : List Tok} {d : Nat} (h : S1 w r W o b (.cells cs t (0, 0)) ts d) (i : Nat) (v : Value) : S1 w r (W.setCell ⟨b, i, none⟩ v) o b (.cells (cs.setIfInBounds i v) t (0, 0)) ts d :=
 ⟨set_other' h.res (by have := h.bl; omega), heap_setCell_same _ _ _ _ _ _ h.loc, h.bl, h.mv.put (Nat.le_of_lt h.bl), h.hr, h.rd.set h.rb, h.k.set h.rb⟩
def Ov (b : Nat) (W : World) (x : Tr) (c : Value) : Prop := TP W (fun k => b < k ∧ k < W.heap.size) x c
def OvS (b : Nat) (W : World) (x : TrS) (c : List Value) : Prop := TS W (fun k => b < k ∧ k < W.heap.size) x c
theorem Ov.of {b : Nat} {W W' : World} {x : Tr} {c : Value} (h : TP W' (Fresh W W') x c) (hb : b < W.heap.size) : Ov b W' x c := TP.keep (fun _ hk => ⟨⟨Nat.lt_of_lt_of_le hb hk.1, hk.2⟩, rfl⟩) _ _ h
theorem OvS.of {b : Nat} {W W' : World} {x : TrS} {c : List Value} (h : TS W' (Fresh W W') x c) (hb : b < W.heap.size) : OvS b W' x c := TS.keep (fun _ hk => ⟨⟨Nat.lt_of_lt_of_le hb hk.1, hk.2⟩, rfl⟩) _ _ h
theorem Ov.next {b r : Nat} {W W' : World} {x : Tr} {c : Value} (h : Ov b W x c) (m : Moved r W W') (hr : r < b) : Ov b W' x c := TP.keep (fun k hk => ⟨⟨hk.1, Nat.lt_of_lt_of_le hk.2 m.size⟩, m.block k hk.2 (fun e => by have := hk.1; injection e; omega)⟩) _ _ h
theorem Ov.put {b i c0 : Nat} {W : World} {x : Tr} {c v : Value} (h : Ov b W x c) (hb : c0 ≤ b) : Ov b (W.setCell ⟨c0, i, none⟩ v) x c := TP.keep (fun k hk => ⟨⟨hk.1, by have := hk.2; simpa [World.setCell] using this⟩, Below.heap_setCell _ _ _ _ (show k ≠ c0 by have := hk.1; omega)⟩) _ _ h
theorem OvS.put {b i c0 : Nat} {W : World} {x : TrS} {c : List Value} {v : Value} (h : OvS b W x c) (hb : c0 ≤ b) : OvS b (W.setCell ⟨c0, i, none⟩ v) x c := TS.keep (fun k hk => ⟨⟨hk.1, by have := hk.2; simpa [World.setCell] using this⟩, Below.heap_setCell _ _ _ _ (show k ≠ c0 by have := hk.1; omega)⟩) _ _ h
theorem Ov.fin {b : Nat} {w W : World} {x : Tr} {c : Value} (h : Ov b W x c) (hb : w.heap.size ≤ b) (xs : List Value) : TP (setAll W w.heap.size 0 xs) (Fresh w (setAll W w.heap.size 0 xs)) x c := TP.keep (fun k hk => ⟨⟨by have := hk.1; omega, by rw [setAll_size]; exact hk.2⟩, setAll_other (by have := hk.1; omega) _ _ _⟩) _ _ h
theorem OvS.fin {b : Nat} {w W : World} {x : TrS} {c : List Value} (h : OvS b W x c) (hb : w.heap.size ≤ b) (xs : List Value) : TS (setAll W w.heap.size 0 xs) (Fresh w (setAll W w.heap.size 0 xs)) x c := TS.keep (fun k hk => ⟨⟨by have := hk.1; omega, by rw [setAll_size]; exact hk.2⟩, setAll_other (by have := hk.1; omega) _ _ _⟩) _ _ h
theorem S1.fin {w : World} {r : Nat} {W : World} {ys : List Value} {t : TypeId} {b : Nat} {o1 : Obj} {ts : List Tok} {d : Nat} (h : S1 w r W (.cells ys.toArray t (0, 0)) b o1 ts d) (xs : List Value) (hl : ys.length = xs.length) :
  (setAll W w.heap.size 0 xs).heap[w.heap.size]? = some (.cells xs.toArray t (0, 0)) ∧ Rd (setAll W w.heap.size 0 xs) r ts d ∧ Moved r w (setAll W w.heap.size 0 xs) :=
 ⟨setAll_row hl h.res, h.rd.setAll h.hr _ _ _, Moved.setAll (Nat.le_refl _) _ _ _ h.mv⟩
theorem S0.fin {w : World} {r : Nat} {W : World} {ys : List Value} {t : TypeId} {ts : List Tok} {d : Nat} (h : S0 w r W (.cells ys.toArray t (0, 0)) ts d) (xs : List Value) (hl : ys.length = xs.length) :
  (setAll W w.heap.size 0 xs).heap[w.heap.size]? = some (.cells xs.toArray t (0, 0)) ∧ Rd (setAll W w.heap.size 0 xs) r ts d ∧ Moved r w (setAll W w.heap.size 0 xs) :=
 ⟨setAll_row hl h.res, h.rd.setAll h.hr _ _ _, Moved.setAll (Nat.le_refl _) _ _ _ h.mv⟩
theorem ret_st {R : Ending → World → Prop} {fn : Func} {a : Act} {W : World} {cs : List Value} {ty : TypeId} {p b : Nat} {ds : TypeDesc} (hf : fn.results = #[.cell p ty]) (h2 : a.tmps.getD p undef = .pointer (some ⟨b, 0, none⟩)) (hd : a.defers = [])
  (hc : W.heap[b]? = some (.cells cs.toArray ty (0, 0))) (hu : Tryz.prog.underlying ty = some ds) (hs : ∃ fs, ds = .struct fs) (hi : (Tryz.prog.info? ty).map (·.size) = some cs.length) (hR : R (.returned (.agg cs.toArray)) W) : bodyPost Tryz.prog fn R .ret a W := by
 obtain ⟨fs, rfl⟩ := hs
 have hl : (loadVar ty ⟨b, 0, none⟩).run Tryz.prog W = .ok (.agg cs.toArray) W := run_loadVar_row W b ty ty cs.toArray (0, 0) _ hc hu rfl (by rw [hi]; simp)
 refine bodyPost_ret ?_ hd hR
 have h2' : a.tmps[p]?.getD undef = .pointer (some ⟨b, 0, none⟩) := by rw [← h2]; simp
 simp [results, hf, h2', asAddr, hl]
theorem four_cells {w : World} {b : Nat} {z0 z1 z2 z3 : Value} {t : TypeId} (h : w.heap[b]? = some (.cells #[z0, z1, z2, z3] t (0, 0))) : w.cell? ⟨b, 0, none⟩ = some z0 ∧ w.cell? ⟨b, 1, none⟩ = some z1 ∧ w.cell? ⟨b, 2, none⟩ = some z2 ∧ w.cell? ⟨b, 3, none⟩ = some z3 ∧ ∀ i, w.frozen? ⟨b, i, none⟩ = false := by
 refine ⟨?_, ?_, ?_, ?_, fun i => ?_⟩
 all_goals first | (simp only [World.cell?, h]; rfl) | simp [World.frozen?, h]
theorem svc {w : World} {b : Nat} {z0 z1 z2 z3 z4 z5 z6 : Value} {t : TypeId} (h : w.heap[b]? = some (.cells #[z0, z1, z2, z3, z4, z5, z6] t (0, 0))) : w.cell? ⟨b, 0, none⟩ = some z0 ∧ w.cell? ⟨b, 1, none⟩ = some z1 ∧ w.cell? ⟨b, 2, none⟩ = some z2 ∧ w.cell? ⟨b, 3, none⟩ = some z3 ∧ w.cell? ⟨b, 4, none⟩ = some z4 ∧ w.cell? ⟨b, 5, none⟩ = some z5 ∧ w.cell? ⟨b, 6, none⟩ = some z6 ∧ ∀ i, w.frozen? ⟨b, i, none⟩ = false := by
 refine ⟨?_, ?_, ?_, ?_, ?_, ?_, ?_, fun i => ?_⟩
 all_goals first | (simp only [World.cell?, h]; rfl) | simp [World.frozen?, h]
theorem ten_cells {w : World} {b : Nat} {z0 z1 z2 z3 z4 z5 z6 z7 z8 z9 : Value} {t : TypeId} (h : w.heap[b]? = some (.cells #[z0, z1, z2, z3, z4, z5, z6, z7, z8, z9] t (0, 0))) : w.cell? ⟨b, 0, none⟩ = some z0 ∧ w.cell? ⟨b, 1, none⟩ = some z1 ∧ w.cell? ⟨b, 2, none⟩ = some z2 ∧ w.cell? ⟨b, 3, none⟩ = some z3 ∧ w.cell? ⟨b, 4, none⟩ = some z4 ∧ w.cell? ⟨b, 5, none⟩ = some z5 ∧ w.cell? ⟨b, 6, none⟩ = some z6 ∧ w.cell? ⟨b, 7, none⟩ = some z7 ∧ w.cell? ⟨b, 8, none⟩ = some z8 ∧ w.cell? ⟨b, 9, none⟩ = some z9 ∧ ∀ i, w.frozen? ⟨b, i, none⟩ = false := by
 refine ⟨?_, ?_, ?_, ?_, ?_, ?_, ?_, ?_, ?_, ?_, fun i => ?_⟩
 all_goals first | (simp only [World.cell?, h]; rfl) | simp [World.frozen?, h]
theorem ptc {w : World} {b : Nat} {z0 z1 : Value} {t : TypeId} (h : w.heap[b]? = some (.cells #[z0, z1] t (0, 0))) : w.cell? ⟨b, 0, none⟩ = some z0 ∧ w.cell? ⟨b, 1, none⟩ = some z1 ∧ ∀ i, w.frozen? ⟨b, i, none⟩ = false := by
 refine ⟨?_, ?_, fun i => ?_⟩
 all_goals first | (simp only [World.cell?, h]; rfl) | simp [World.frozen?, h]
theorem val_open {w : World} {P : Nat → Prop} {a : VT} {v : Value} (h : layS encV w P a v) : ∃ (i0 : Int) (i1 : Int) (s2 : ByteArray) (A3 : Option Addr) (n3 c3 : Nat) (A4 : Option Addr) (n4 c4 : Nat), v = .agg #[.int .i64 i0, .int .i64 i1, .string s2, .slice A3 n3 c3, .slice A4 n4 c4] ∧ TS w P (encV a) [.int .i64 i0, .int .i64 i1, .string s2, .slice A3 n3 c3, .slice A4 n4 c4] := by
 obtain ⟨cs, rfl, h⟩ := h
 have h0 := h
 obtain ⟨k, n, s, l, m⟩ := a
 rw [encV] at h0
 simp only [TS, TP] at h0
 obtain ⟨c0, _, rfl, ⟨rfl, _⟩, c1, _, rfl, ⟨rfl, _⟩, c2, _, rfl, ⟨rfl, _⟩, c3, _, rfl, ⟨A3, k3, rfl, _, _⟩, c4, _, rfl, ⟨A4, k4, rfl, _, _⟩, rfl⟩ := h0
 exact ⟨_, _, _, _, _, _, _, _, _, rfl, h⟩
theorem mem_open {w : World} {P : Nat → Prop} {a : ByteArray × VT} {v : Value} (h : layS (fun p => encMem p.1 p.2) w P a v) : ∃ (s0 : ByteArray) (i1 : Int) (i2 : Int) (s3 : ByteArray) (A4 : Option Addr) (n4 c4 : Nat) (A5 : Option Addr) (n5 c5 : Nat), v = .agg #[.string s0, .int .i64 i1, .int .i64 i2, .string s3, .slice A4 n4 c4, .slice A5 n5 c5] ∧ TS w P ((fun p => encMem p.1 p.2) a) [.string s0, .int .i64 i1, .int .i64 i2, .string s3, .slice A4 n4 c4, .slice A5 n5 c5] := by
 obtain ⟨cs, rfl, h⟩ := h
 have h0 := h
 obtain ⟨nm, k, n, s, l, m⟩ := a
 simp only [encMem, encV, TS, TP] at h0
 obtain ⟨c0, _, rfl, ⟨rfl, _⟩, c1, _, rfl, ⟨rfl, _⟩, c2, _, rfl, ⟨rfl, _⟩, c3, _, rfl, ⟨rfl, _⟩, c4, _, rfl, ⟨A4, k4, rfl, _, _⟩, c5, _, rfl, ⟨A5, k5, rfl, _, _⟩, rfl⟩ := h0
 exact ⟨_, _, _, _, _, _, _, _, _, _, rfl, h⟩
theorem sel_open {w : World} {P : Nat → Prop} {a : SelT} {v : Value} (h : layS encS w P a v) : ∃ (i0 : Int) (s1 : ByteArray) (s2 : ByteArray) (A3 : Option Addr) (n3 c3 : Nat) (A4 : Option Addr) (n4 c4 : Nat) (s5 : ByteArray) (A6 : Option Addr) (n6 c6 : Nat), v = .agg #[.int .i64 i0, .string s1, .string s2, .slice A3 n3 c3, .slice A4 n4 c4, .string s5, .slice A6 n6 c6] ∧ TS w P (encS a) [.int .i64 i0, .string s1, .string s2, .slice A3 n3 c3, .slice A4 n4 c4, .string s5, .slice A6 n6 c6] := by
 obtain ⟨cs, rfl, h⟩ := h
 have h0 := h
 obtain ⟨k, a, n, g, d, o, s⟩ := a
 rw [encS] at h0
 simp only [TS, TP] at h0
 obtain ⟨c0, _, rfl, ⟨rfl, _⟩, c1, _, rfl, ⟨rfl, _⟩, c2, _, rfl, ⟨rfl, _⟩, c3, _, rfl, ⟨A3, k3, rfl, _, _⟩, c4, _, rfl, ⟨A4, k4, rfl, _, _⟩, c5, _, rfl, ⟨rfl, _⟩, c6, _, rfl, ⟨A6, k6, rfl, _, _⟩, rfl⟩ := h0
 exact ⟨_, _, _, _, _, _, _, _, _, _, _, _, _, rfl, h⟩
theorem var_open {w : World} {P : Nat → Prop} {a : VarT} {v : Value} (h : layS encVar w P a v) : ∃ (s0 : ByteArray) (s1 : ByteArray) (i2 : Int) (i3 : Int) (b4 : Bool) (i5 : Int) (i6 : Int) (s7 : ByteArray) (A8 : Option Addr) (n8 c8 : Nat) (A9 : Option Addr) (n9 c9 : Nat), v = .agg #[.string s0, .string s1, .int .i64 i2, .int .i64 i3, .bool b4, .int .i64 i5, .int .i64 i6, .string s7, .slice A8 n8 c8, .slice A9 n9 c9] ∧ TS w P (encVar a) [.string s0, .string s1, .int .i64 i2, .int .i64 i3, .bool b4, .int .i64 i5, .int .i64 i6, .string s7, .slice A8 n8 c8, .slice A9 n9 c9] := by
 obtain ⟨cs, rfl, h⟩ := h
 have h0 := h
 obtain ⟨n, tn, tl, tm, has, k, nn, s, l, m⟩ := a
 unfold encVar at h0
 rw [encV] at h0
 simp only [TS, TP] at h0
 obtain ⟨c0, _, rfl, ⟨rfl, _⟩, c1, _, rfl, ⟨rfl, _⟩, c2, _, rfl, ⟨rfl, _⟩, c3, _, rfl, ⟨rfl, _⟩, c4, _, rfl, ⟨rfl, _⟩, c5, _, rfl, ⟨rfl, _⟩, c6, _, rfl, ⟨rfl, _⟩, c7, _, rfl, ⟨rfl, _⟩, c8, _, rfl, ⟨A8, k8, rfl, _, _⟩, c9, _, rfl, ⟨A9, k9, rfl, _, _⟩, rfl⟩ := h0
 exact ⟨_, _, _, _, _, _, _, _, _, _, _, _, _, _, rfl, h⟩
theorem op_open {w : World} {P : Nat → Prop} {a : OpT} {v : Value} (h : layS encOp w P a v) : ∃ (i0 : Int) (s1 : ByteArray) (A2 : Option Addr) (n2 c2 : Nat) (A3 : Option Addr) (n3 c3 : Nat) (A4 : Option Addr) (n4 c4 : Nat), v = .agg #[.int .i64 i0, .string s1, .slice A2 n2 c2, .slice A3 n3 c3, .slice A4 n4 c4] ∧ TS w P (encOp a) [.int .i64 i0, .string s1, .slice A2 n2 c2, .slice A3 n3 c3, .slice A4 n4 c4] := by
 obtain ⟨cs, rfl, h⟩ := h
 have h0 := h
 unfold encOp at h0
 simp only [TS, TP] at h0
 obtain ⟨c0, _, rfl, ⟨rfl, _⟩, c1, _, rfl, ⟨rfl, _⟩, c2, _, rfl, ⟨A2, k2, rfl, _, _⟩, c3, _, rfl, ⟨A3, k3, rfl, _, _⟩, c4, _, rfl, ⟨A4, k4, rfl, _, _⟩, rfl⟩ := h0
 exact ⟨_, _, _, _, _, _, _, _, _, _, _, rfl, h⟩
theorem frag_open {w : World} {P : Nat → Prop} {a : FragT} {v : Value} (h : layS encF w P a v) : ∃ (s0 : ByteArray) (s1 : ByteArray) (A2 : Option Addr) (n2 c2 : Nat) (A3 : Option Addr) (n3 c3 : Nat), v = .agg #[.string s0, .string s1, .slice A2 n2 c2, .slice A3 n3 c3] ∧ TS w P (encF a) [.string s0, .string s1, .slice A2 n2 c2, .slice A3 n3 c3] := by
 obtain ⟨cs, rfl, h⟩ := h
 have h0 := h
 unfold encF at h0
 simp only [TS, TP] at h0
 obtain ⟨c0, _, rfl, ⟨rfl, _⟩, c1, _, rfl, ⟨rfl, _⟩, c2, _, rfl, ⟨A2, k2, rfl, _, _⟩, c3, _, rfl, ⟨A3, k3, rfl, _, _⟩, rfl⟩ := h0
 exact ⟨_, _, _, _, _, _, _, _, rfl, h⟩
theorem val_post (fx : Bool) (d : Nat) (ts : List Tok) (r : Nat) (w : World) (hG : GoodD ts) (hd : d ≤ 16) (hR : Rd w r ts d) (hK : KRd r w) : Calls Tryz.prog 49 #[.pointer (some ⟨r, 0, none⟩), .bool fx] w (Post r d w (layS encV) (valD fx d ts)) := by
 refine (value_any (2 * ts.length + 1) fx d ts r w (Nat.le_refl _) hG.1 hd hR hK).mono ?_
 intro e w' h
 unfold valD
 cases hv : valR (2 * ts.length + 1) fx d ts with
 | error x => rw [hv] at h; exact h
 | ok p =>
   obtain ⟨v, ts'⟩ := p
   rw [hv] at h
   obtain ⟨⟨d0, d1, d2, d3, d4, rfl, hvp⟩, h1, _, h3⟩ := h
   exact ⟨⟨_, rfl, [d0, d1, d2, d3, d4], rfl, vp_ts _ _ _ _ _ _ hvp⟩, h1, h3⟩
theorem mem_post (fx : Bool) (d : Nat) (ts : List Tok) (r : Nat) (w : World) (hG : GoodD ts) (hd : d ≤ 16) (hR : Rd w r ts d) (hK : KRd r w) : Calls Tryz.prog 187 #[.pointer (some ⟨r, 0, none⟩), .bool fx] w (Post r d w (layS (fun p => encMem p.1 p.2)) (memD fx d ts)) := by
 refine (member_any (2 * ts.length + 1) fx d ts r w (Nat.le_refl _) hG.1 hd hR hK).mono ?_
 intro e w' h
 unfold memD
 cases hv : memR (2 * ts.length + 1) fx d ts with
 | error x => rw [hv] at h; exact h
 | ok p =>
   obtain ⟨⟨nm, v⟩, ts'⟩ := p
   rw [hv] at h
   obtain ⟨⟨d0, d1, d2, d3, d4, rfl, hs, hvp⟩, h1, _, h3⟩ := h
   exact ⟨⟨_, rfl, [.string nm, d0, d1, d2, d3, d4], rfl, TS.str hs (vp_ts _ _ _ _ _ _ hvp)⟩, h1, h3⟩
set_option maxRecDepth 100000 in
theorem typ_deep (ts : List Tok) (hb : atB 1 oB ts = true) : TypC 0 ts := by
 intro r d w h
 have R0 := Hd ((h.below (blw w (.cells #[.string ⟨#[]⟩, .int .i64 0, .int .i64 0] 39))).below (blw _ (.cells #[.string ⟨#[]⟩, .int .i64 0, .int .i64 0] 39)))
 have K0 := Hd (TwoT.start w r (.string ⟨#[]⟩) (.int .i64 0) (.int .i64 0) (.string ⟨#[]⟩) (.int .i64 0) (.int .i64 0) h.lt)
 have HA := Hd (at_any r ts d 1 oB _ R0.out)
 rw [hb] at HA
 rw [typeR_deep hb]
 clear h hb
 show Calls _ _ #[_, .int .i64 4] _ fun e w' => e = PanicE 4 ∧ Moved r w w'
 go_enter Tryz.func128, Tryz.ntmps128
 go_wp2_with fail
 refine HA.out.mono ?_
 rintro e w1 ⟨rfl, rfl⟩
 go_wp2_with fail
 exact ⟨rfl, rfl, K0.out.2.2.1⟩
set_option maxRecDepth 100000 in
set_option maxHeartbeats 4000000 in
theorem typ_list (left : Nat) (hleft : left + 1 ≤ 4) (ih : ∀ ts, NamesT ts → TypC left ts) (ts : List Tok) (hN : NamesT ts) (hb : atB 1 oB ts = true) : TypC (left + 1) ts := by
 intro r d w h
 have K0 := Hd (TwoT.start w r (.string ⟨#[]⟩) (.int .i64 0) (.int .i64 0) (.string ⟨#[]⟩) (.int .i64 0) (.int .i64 0) h.lt)
 have R0 := Hd ((h.below (blw w (.cells #[.string ⟨#[]⟩, .int .i64 0, .int .i64 0] 39))).below (blw _ (.cells #[.string ⟨#[]⟩, .int .i64 0, .int .i64 0] 39)))
 have HA := Hd (at_any r ts d 1 oB _ R0.out)
 have HK := Hd (skip_any r ts d 1 oB _ R0.out)
 have hst : skipT 1 oB ts = ts.tail := by unfold skipT; rw [hb]; rfl
 rw [hb] at HA HK
 rw [hst] at HK
 obtain ⟨L, hL⟩ : ∃ L : Int, ((4 - (left + 1) : Nat) : Int) = L := ⟨_, rfl⟩
 have hL4 : (L == 4) = false := by simp; omega
 have hL1 : L + 1 = ((4 - left : Nat) : Int) := by omega
 have hLb : 0 ≤ L ∧ L ≤ 4 := by omega
 rw [hL]
 have HI := fun wx (hx : Rd wx r ts.tail d) => Hd (ih ts.tail hN.tail r d wx hx)
 rw [← hL1] at HI
 have hright := type_right left ts.tail hN.tail
 clear hst h hN hL hL1 ih
 cases hi : typeR left ts.tail with
 | error x =>
   rw [hi] at HI
   have hg : typeR (left + 1) ts = .error x := by rw [typeR_list hb, hi]
   rw [hg]
   clear hg hb
   show Calls _ _ _ _ fun e w' => e = PanicE x ∧ Moved r w w'
   clear hi hright
   go_enter Tryz.func128, Tryz.ntmps128
   go_wp2_with fail
   refine HA.out.mono ?_
   rintro e w1 ⟨rfl, rfl⟩
   go_wp2_with fail
   refine HK.out.mono ?_
   rintro e w2 ⟨rfl, r2, m2⟩
   have K2 := Hd (K0.out.next m2)
   have R2 := Hd r2
   clear r2 m2
   go_wp2_with fail
   refine (HI _ R2.out).out.mono ?_
   rintro e w3 ⟨rfl, m3⟩
   exact ⟨rfl, rfl, K2.out.2.2.1.trans m3⟩
 | ok p =>
   obtain ⟨⟨n, l, m⟩, ts1⟩ := p
   rw [hi] at HI
   have RNi := hright n l m ts1 hi
   have HLI := fun wx => Hd (by have h := list_any n (l : Int) (m : Int) wx RNi.2.1; rw [list_of RNi (by omega), yesT] at h; exact h)
   have RN := Hd (show RightN n (l + 1) (2 * m) (left + 1) ts1.tail from ⟨RNi.1, RNi.2.1, by have := RNi.2.2.1; omega, by have := RNi.2.2.2.1; rw [Nat.pow_succ]; omega, RNi.2.2.2.2.tail⟩)
   clear hright RNi
   cases hc : atB 1 cB ts1 with
   | false =>
     have HN := fun wx (hx : Rd wx r ts1 d) => Hd (by have := need_any r ts1 d 1 cB wx hx; rw [hc] at this; simp only [Bool.false_eq_true, if_false] at this; exact this)
     have hg : typeR (left + 1) ts = .error 2 := by rw [typeR_list hb, hi]; show (if atB 1 cB ts1 = true then _ else _) = _; rw [hc]; rfl
     rw [hg]
     clear hc hg hb hi
     show Calls _ _ _ _ fun e w' => e = PanicE 2 ∧ Moved r w w'
     go_enter Tryz.func128, Tryz.ntmps128
     go_wp2_with fail
     refine HA.out.mono ?_
     rintro e w1 ⟨rfl, rfl⟩
     go_wp2_with fail
     refine HK.out.mono ?_
     rintro e w2 ⟨rfl, r2, m2⟩
     have K2 := Hd (K0.out.next m2)
     have R2 := Hd r2
     clear r2 m2
     go_wp2_with fail
     refine (HI _ R2.out).out.mono ?_
     rintro e w3 ⟨rfl, r3, m3⟩
     have K3 := Hd (K2.out.next m3)
     have R3 := Hd r3
     clear r3 m3 HI
     go_wp2_with fail
     refine (HLI _).out.mono ?_
     rintro e w4 ⟨rfl, hb4⟩
     have K4 := Hd (K3.out.next (Moved.of_below hb4))
     have R4 := Hd (R3.out.below hb4)
     clear hb4 HLI K0 K2 K3 R0 R2 R3
     obtain ⟨k0, k1, k2, z0, z1, z2⟩ := ty_cells K4.out.2.1
     go_wp2_with fail
     clear k0 k1 k2 z0 z1 z2
     have K5 := Hd (K4.out.set2 (.string n) (.int .i64 ((l + 1 : Nat) : Int)) (.int .i64 ((2 * m : Nat) : Int)))
     have R5 := Hd (((R4.out.set (b := w.heap.size + 1) (i := 0) (v := .string n) (Nat.lt_succ_of_lt K4.out.2.2.2)).set (b := w.heap.size + 1) (i := 1) (v := .int .i64 ((l + 1 : Nat) : Int)) (Nat.lt_succ_of_lt K4.out.2.2.2)).set (b := w.heap.size + 1) (i := 2) (v := .int .i64 ((2 * m : Nat) : Int)) (Nat.lt_succ_of_lt K4.out.2.2.2))
     refine (HN _ R5.out).out.mono ?_
     rintro e w6 ⟨rfl, m6⟩
     exact ⟨rfl, rfl, K5.out.2.2.1.trans m6⟩
   | true =>
     have HN := fun wx (hx : Rd wx r ts1 d) => Hd (by have := need_any r ts1 d 1 cB wx hx; rw [hc] at this; simp only [if_true] at this; exact this)
     have hg : typeR (left + 1) ts = .ok (bangR n (l + 1) (2 * m) ts1.tail) := by rw [typeR_list hb, hi]; show (if atB 1 cB ts1 = true then _ else _) = _; rw [hc]; rfl
     rw [hg]
     clear hc hg hb hi
     obtain ⟨RES, hRES⟩ : ∃ RES, bangR n (l + 1) (2 * m) ts1.tail = RES := ⟨_, rfl⟩
     rw [hRES]
     have hR := Hd hRES.symm
     clear hRES
     obtain ⟨l1, hl1⟩ : ∃ l1, l + 1 = l1 := ⟨_, rfl⟩
     obtain ⟨m1, hm1⟩ : ∃ m1, 2 * m = m1 := ⟨_, rfl⟩
     rw [hl1, hm1] at RN hR HLI
     clear hl1 hm1
     go_enter Tryz.func128, Tryz.ntmps128
     go_wp2_with fail
     refine HA.out.mono ?_
     rintro e w1 ⟨rfl, rfl⟩
     go_wp2_with fail
     refine HK.out.mono ?_
     rintro e w2 ⟨rfl, r2, m2⟩
     have K2 := Hd (K0.out.next m2)
     have R2 := Hd r2
     clear r2 m2
     go_wp2_with fail
     refine (HI _ R2.out).out.mono ?_
     rintro e w3 ⟨rfl, r3, m3⟩
     have K3 := Hd (K2.out.next m3)
     have R3 := Hd r3
     clear r3 m3 HI
     go_wp2_with fail
     refine (HLI _).out.mono ?_
     rintro e w4 ⟨rfl, hb4⟩
     have K4 := Hd (K3.out.next (Moved.of_below hb4))
     have R4 := Hd (R3.out.below hb4)
     clear hb4 HLI K0 K2 K3 R0 R2 R3
     obtain ⟨k0, k1, k2, z0, z1, z2⟩ := ty_cells K4.out.2.1
     go_wp2_with fail
     clear k0 k1 k2 z0 z1 z2
     have K5 := Hd (K4.out.set2 (.string n) (.int .i64 (l1 : Int)) (.int .i64 (m1 : Int)))
     have R5 := Hd (((R4.out.set (b := w.heap.size + 1) (i := 0) (v := .string n) (Nat.lt_succ_of_lt K4.out.2.2.2)).set (b := w.heap.size + 1) (i := 1) (v := .int .i64 (l1 : Int)) (Nat.lt_succ_of_lt K4.out.2.2.2)).set (b := w.heap.size + 1) (i := 2) (v := .int .i64 (m1 : Int)) (Nat.lt_succ_of_lt K4.out.2.2.2))
     refine (HN _ R5.out).out.mono ?_
     rintro e w6 ⟨rfl, r6, m6⟩
     have K6 := Hd (K5.out.next m6)
     have R6 := Hd r6
     clear r6 m6 HN K5 R5 K4 R4 HA HK
     go_wp2_with fail
     generalize ts1.tail = ts2 at *
     have HS := Hd (skip_any r ts2 d 1 bB _ R6.out)
     have hbb : Hid (bangR n l1 m1 ts2 = if atB 1 bB ts2 = true then ((n, l1, m1 ||| 1), ts2.tail) else ((n, l1, m1), ts2)) := Hd rfl
     have hst : Hid (skipT 1 bB ts2 = if atB 1 bB ts2 = true then ts2.tail else ts2) := Hd rfl
     generalize atB 1 bB ts2 = q at *
     obtain ⟨k0, k1, k2, z0, z1, z2⟩ := ty_cells K6.out.2.1
     obtain ⟨j0, j1, j2, y0, y1, y2⟩ := ty_cells K6.out.1
     clear k0 k1 k2 z0 z1 z2 j0 j1 j2 y0 y1 y2
     go_wp2_with fail
     cases q with
     | false =>
       refine HS.out.mono ?_
       rintro e wa ⟨rfl, ra, ma⟩
       rw [hst.out] at ra
       have KA := Hd (K6.out.next ma)
       have RA := Hd ra
       obtain ⟨k0, k1, k2, z0, z1, z2⟩ := ty_cells KA.out.2.1
       obtain ⟨j0, j1, j2, y0, y1, y2⟩ := ty_cells KA.out.1
       clear ra ma HS
       go_wp2_with fail
       have KB := Hd (KA.out.set1 (.string n) (.int .i64 (l1 : Nat)) (.int .i64 (m1 : Nat)))
       refine ret_tp rfl rfl rfl KB.out.1 ?_
       rw [hR.out, hbb.out]
       exact ⟨rfl, ((RA.out.set (Nat.lt_of_lt_of_le KA.out.2.2.2 (Nat.le_refl _))).set (Nat.lt_of_lt_of_le KA.out.2.2.2 (Nat.le_refl _))).set (Nat.lt_of_lt_of_le KA.out.2.2.2 (Nat.le_refl _)), KB.out.2.2.1⟩
     | true =>
       refine HS.out.mono ?_
       rintro e wa ⟨rfl, ra, ma⟩
       rw [hst.out] at ra
       have KA := Hd (K6.out.next ma)
       have RA := Hd ra
       have HM := fun wx => Hd (by have h := must_any n (l1 : Nat) (m1 : Nat) wx RN.out.2.1; rw [must_of RN.out hleft] at h; exact h)
       obtain ⟨k0, k1, k2, z0, z1, z2⟩ := ty_cells KA.out.2.1
       clear ra ma HS
       go_wp2_with fail
       refine (HM _).out.mono ?_
       rintro e wb ⟨rfl, hb⟩
       have KB := Hd (KA.out.next (Moved.of_below hb))
       have RB := Hd (RA.out.below hb)
       clear hb k0 k1 k2 z0 z1 z2 HM
       obtain ⟨k0, k1, k2, z0, z1, z2⟩ := ty_cells KB.out.2.1
       obtain ⟨j0, j1, j2, y0, y1, y2⟩ := ty_cells KB.out.1
       go_wp2_with fail
       have KC := Hd ((KB.out.set2 (.string n) (.int .i64 (l1 : Nat)) (.int .i64 ((m1 ||| 1 : Nat) : Int))).set1 (.string n) (.int .i64 (l1 : Nat)) (.int .i64 ((m1 ||| 1 : Nat) : Int)))
       refine ret_tp rfl rfl rfl KC.out.1 ?_
       rw [hR.out, hbb.out]
       have hlt := KB.out.2.2.2
       exact ⟨rfl, (((((RB.out.set (by omega)).set (by omega)).set (by omega)).set (by omega)).set (by omega)).set (by omega), KC.out.2.2.1⟩
theorem typ_any (left : Nat) (hleft : left ≤ 4) : ∀ ts, NamesT ts → TypC left ts := by
 induction left with
 | zero =>
   intro ts hN
   cases hb : atB 1 oB ts with
   | true => exact typ_deep ts hb
   | false => exact typ_name 0 hleft ts hN hb
 | succ left ih =>
   intro ts hN
   cases hb : atB 1 oB ts with
   | true => exact typ_list left hleft (ih (by omega)) ts hN hb
   | false => exact typ_name (left + 1) hleft ts hN hb
theorem assert_refusal (v : Value) (w : World) : (Instr.typeAssert (.iface 145 v) 20 145 true).run Tryz.prog w = .ok (.tuple #[v, .bool true]) w := by kernel_rfl
def pu : Int → List UInt8 → Option Int
 | acc, [] => some acc
 | acc, b :: t => if hexB b then pu (acc * 16 + hexI b) t else none
def puS (l : List UInt8) : Value := match pu 0 l with | some v => .tuple #[.int .u64 v, .nilIface] | none => .tuple #[.int .u64 0, .iface 254 (.int .i64 2)]
def lowI (b : UInt8) : Int := bits .or .u8 (b.toNat : Int) 32
theorem hex_dig : ∀ b : UInt8, ((48 : Int) ≤ (b.toNat : Int) ∧ (b.toNat : Int) ≤ 57) → hexB b = true ∧ hexI b = (b.toNat : Int) - 48 := byte_all (by decide +kernel)
theorem hex_low : ∀ b : UInt8, ¬ ((48 : Int) ≤ (b.toNat : Int) ∧ (b.toNat : Int) ≤ 57) → (97 : Int) ≤ lowI b → lowI b ≤ 102 → hexB b = true ∧ hexI b = lowI b - 87 := byte_all (by decide +kernel)
theorem hex_not : ∀ b : UInt8, ¬ ((48 : Int) ≤ (b.toNat : Int) ∧ (b.toNat : Int) ≤ 57) → ¬ ((97 : Int) ≤ lowI b ∧ lowI b ≤ 102) → hexB b = false := byte_all (by decide +kernel)
theorem lower_any (b : UInt8) (w : World) : Calls Tryz.prog 295 #[.int .u8 (b.toNat : Int)] w fun e w' => e = .returned (.int .u8 (lowI b)) ∧ w = w' := by
 go_enter Tryz.func295, Tryz.ntmps295
 go_wp2
 go_ret
 exact ⟨rfl, rfl⟩
def lim : Nat → Int | 0 => 1 | 1 => 16 | 2 => 256 | 3 => 4096 | _ => 65536
theorem lim_le {k : Nat} {a : Int} (hk : k < 4) (h : a < lim k) : a ≤ 4095 := by
 rcases (by omega : k = 0 ∨ k = 1 ∨ k = 2 ∨ k = 3) with rfl | rfl | rfl | rfl <;> simp only [lim] at h <;> omega
theorem lim_next {k : Nat} {a d : Int} (hk : k < 4) (h : a < lim k) (hd : d ≤ 15) : a * 16 + d < lim (k + 1) := by
 rcases (by omega : k = 0 ∨ k = 1 ∨ k = 2 ∨ k = 3) with rfl | rfl | rfl | rfl <;> simp only [lim] at h ⊢ <;> omega
theorem below_bytes (w : World) (e : TypeId) (s : ByteArray) : Below w.heap.size w (Lib.bytesWorld w e s) := by
 unfold Lib.bytesWorld
 exact Lib.below_freeze ((Below.drew (Below.refl _ w)).alloc (Nat.le_refl _) _) (p := ⟨w.heap.size, _, none⟩) (Nat.le_refl _) 1
set_option maxRecDepth 100000 in
set_option maxHeartbeats 4000000 in
theorem parse_in (t : ByteArray) (h4 : t.size = 4) (w : World) : Calls Tryz.prog 272 #[.string t, .int .i64 16, .int .i64 16] w fun e w' => e = .returned (puS t.data.toList) ∧ Below w.heap.size w w' := by
 have hemp := empty_no (s := t) (by omega)
 have hcv := Lib.run_convert_string_bytes (P := Tryz.prog) w 9 100 5 t (u := .string) Tryz.underlying9 Tryz.underlying100 Tryz.underlying5
 have hB : ∀ j, j < t.size → (Lib.bytesWorld w 5 t).cell? ⟨w.heap.size, j, none⟩ = some (.int .u8 (t.data.toList.getD j 0).toNat) := fun j hj => Lib.bytesWorld_cell w 5 t j hj
 have hbl := below_bytes w 5 t
 obtain ⟨W1, hW1⟩ : ∃ W1, W1 = Lib.bytesWorld w 5 t := ⟨_, rfl⟩
 rw [← hW1] at hcv hB hbl
 have HBL := Hd hbl
 clear hW1 hbl
 have hLn := len_data t
 obtain ⟨bs, hL⟩ : ∃ bs, bs = t.data.toList := ⟨_, rfl⟩
 rw [← hL] at hB hLn ⊢
 clear hL
 obtain ⟨V, hV⟩ : ∃ V, puS bs = V := ⟨_, rfl⟩
 have HV := Hd hV
 rw [hV]
 clear hV
 have hmv : IntKind.u64.wrap (IntKind.u64.wrap 65536 - 1) = 65535 := by
  rw [IntKind.wrap_u64, IntKind.wrap_u64]
  decide
 go_enter Tryz.func272, Tryz.ntmps272
 go_wp2
 go_loop [12, 13, 101] (fun vu vn vi => ∃ (k : Nat) (a : Int), vu = .bool false ∧ vn = .int .u64 a ∧ vi = .int .i64 k ∧ k ≤ t.size ∧ Hid (0 ≤ a ∧ a < lim k ∧ pu 0 bs = pu a (bs.drop k)))
  (fun _ _ vi => t.size - (intOf vi).toNat)
 case atStart => exact ⟨0, 0, rfl, rfl, rfl, by omega, Hd ⟨by omega, by simp [lim], rfl⟩⟩
 case round =>
  obtain ⟨k, a, rfl, rfl, rfl, hk, hh⟩ := hrel
  obtain ⟨a0, hal, hdec⟩ := hh.out
  clear hh
  by_cases hkn : k < t.size
  · have hk4 : k < 4 := by omega
    have a1 := lim_le hk4 hal
    have hc := hB k hkn
    have hdrop : bs.drop k = bs[k]'(by omega) :: bs.drop (k + 1) := List.drop_eq_getElem_cons (by omega)
    have hget : bs.getD k 0 = bs[k]'(by omega) := by simp [List.getD, List.getElem?_eq_getElem (show k < bs.length by omega)]
    rw [hdrop] at hdec
    rw [hget] at hc
    generalize bs[k]'(by omega) = c at hc hdec
    have hc256 : c.toNat < 256 := c.toNat_lt
    have HLO := Hd (lower_any c W1)
    clear hB hdrop hget
    have h95 : ((c.toNat : Int) == 95) = true ∨ ((c.toNat : Int) == 95) = false := by cases ((c.toNat : Int) == 95) <;> simp
    by_cases hd0 : (48 : Int) ≤ (c.toNat : Int) ∧ (c.toNat : Int) ≤ 57
    · obtain ⟨hx, hv⟩ := hex_dig c hd0
      obtain ⟨d0, d1⟩ := hd0
      have HN : Hid (0 ≤ a * 16 + ((c.toNat : Int) - 48) ∧ a * 16 + ((c.toNat : Int) - 48) < lim (k + 1) ∧ pu 0 bs = pu (a * 16 + ((c.toNat : Int) - 48)) (bs.drop (k + 1))) := Hd ⟨by omega, lim_next hk4 hal (by omega), hdec.trans (by rw [pu, hx, hv]; rfl)⟩
      clear hdec hx hv hal h95
      go_wp2
      refine ⟨⟨k + 1, a * 16 + ((c.toNat : Int) - 48), rfl, (by first | rfl | (congr 1; omega)), (by first | rfl | (congr 1; omega)), by omega, HN⟩, by simp [intOf]; omega⟩
    · have hdd : (c.toNat : Int) < 48 ∨ (57 < (c.toNat : Int)) := by omega
      by_cases hl : (97 : Int) ≤ lowI c ∧ lowI c ≤ 102
      · obtain ⟨hx, hv⟩ := hex_low c hd0 hl.1 hl.2
        obtain ⟨l0, l1⟩ := hl
        have l2 : lowI c ≤ 122 := by omega
        have l3 : lowI c - 87 < 16 := by omega
        have HN : Hid (0 ≤ a * 16 + (lowI c - 87) ∧ a * 16 + (lowI c - 87) < lim (k + 1) ∧ pu 0 bs = pu (a * 16 + (lowI c - 87)) (bs.drop (k + 1))) := Hd ⟨by omega, lim_next hk4 hal (by omega), hdec.trans (by rw [pu, hx, hv]; rfl)⟩
        generalize lowI c = v at *
        clear hdec hx hv hal hd0
        rcases h95 with h95 | h95
        · rcases hdd with hdd | hdd
          · have hdd3 : ¬ (48 : Int) ≤ (c.toNat : Int) := by omega
            go_wp2_with fail
            refine HLO.out.mono ?_
            rintro e w1 ⟨rfl, rfl⟩
            go_wp2_with fail
            refine HLO.out.mono ?_
            rintro e w1 ⟨rfl, rfl⟩
            go_wp2_with fail
            refine HLO.out.mono ?_
            rintro e w1 ⟨rfl, rfl⟩
            go_wp2_with fail
            refine ⟨⟨k + 1, a * 16 + (v - 87), rfl, (by first | rfl | (congr 1; omega)), (by first | rfl | (congr 1; omega)), by omega, HN⟩, by simp [intOf]; omega⟩
          · have hdd1 : (48 : Int) ≤ (c.toNat : Int) := by omega
            have hdd2 : ¬ (c.toNat : Int) ≤ 57 := by omega
            go_wp2_with fail
            refine HLO.out.mono ?_
            rintro e w1 ⟨rfl, rfl⟩
            go_wp2_with fail
            refine HLO.out.mono ?_
            rintro e w1 ⟨rfl, rfl⟩
            go_wp2_with fail
            refine HLO.out.mono ?_
            rintro e w1 ⟨rfl, rfl⟩
            go_wp2_with fail
            refine ⟨⟨k + 1, a * 16 + (v - 87), rfl, (by first | rfl | (congr 1; omega)), (by first | rfl | (congr 1; omega)), by omega, HN⟩, by simp [intOf]; omega⟩
        · rcases hdd with hdd | hdd
          · have hdd3 : ¬ (48 : Int) ≤ (c.toNat : Int) := by omega
            go_wp2_with fail
            refine HLO.out.mono ?_
            rintro e w1 ⟨rfl, rfl⟩
            go_wp2_with fail
            refine HLO.out.mono ?_
            rintro e w1 ⟨rfl, rfl⟩
            go_wp2_with fail
            refine HLO.out.mono ?_
            rintro e w1 ⟨rfl, rfl⟩
            go_wp2_with fail
            refine ⟨⟨k + 1, a * 16 + (v - 87), rfl, (by first | rfl | (congr 1; omega)), (by first | rfl | (congr 1; omega)), by omega, HN⟩, by simp [intOf]; omega⟩
          · have hdd1 : (48 : Int) ≤ (c.toNat : Int) := by omega
            have hdd2 : ¬ (c.toNat : Int) ≤ 57 := by omega
            go_wp2_with fail
            refine HLO.out.mono ?_
            rintro e w1 ⟨rfl, rfl⟩
            go_wp2_with fail
            refine HLO.out.mono ?_
            rintro e w1 ⟨rfl, rfl⟩
            go_wp2_with fail
            refine HLO.out.mono ?_
            rintro e w1 ⟨rfl, rfl⟩
            go_wp2_with fail
            refine ⟨⟨k + 1, a * 16 + (v - 87), rfl, (by first | rfl | (congr 1; omega)), (by first | rfl | (congr 1; omega)), by omega, HN⟩, by simp [intOf]; omega⟩
      · have hx := hex_not c hd0 hl
        have hF : Hid (V = .tuple #[.int .u64 0, .iface 254 (.int .i64 2)]) := Hd (by rw [← HV.out, puS, show pu 0 bs = none from hdec.trans (by simp [pu, hx])])
        have hlow := bits_lo_u8 .or (c.toNat : Int) 32
        have hhi := bits_hi_u8 .or (c.toNat : Int) 32
        change 0 ≤ lowI c at hlow
        change lowI c ≤ 255 at hhi
        generalize lowI c = v at *
        clear hdec hx hal hd0 HV
        rcases (by omega : v < 97 ∨ (97 ≤ v ∧ 122 < v) ∨ (97 ≤ v ∧ v ≤ 122 ∧ 103 ≤ v)) with l0 | ⟨l0, l1⟩ | ⟨l0, l1, l2⟩
        · clear hl
          have l9 : ¬ 97 ≤ v := by omega
          rcases h95 with h95 | h95
          · rcases hdd with hdd | hdd
            · have hdd3 : ¬ (48 : Int) ≤ (c.toNat : Int) := by omega
              go_wp2_with fail
              refine HLO.out.mono ?_
              rintro e w1 ⟨rfl, rfl⟩
              go_wp2_with fail
              go_ret2
              exact ⟨by rw [hF.out]; rfl, HBL.out⟩
            · have hdd1 : (48 : Int) ≤ (c.toNat : Int) := by omega
              have hdd2 : ¬ (c.toNat : Int) ≤ 57 := by omega
              go_wp2_with fail
              refine HLO.out.mono ?_
              rintro e w1 ⟨rfl, rfl⟩
              go_wp2_with fail
              go_ret2
              exact ⟨by rw [hF.out]; rfl, HBL.out⟩
          · rcases hdd with hdd | hdd
            · have hdd3 : ¬ (48 : Int) ≤ (c.toNat : Int) := by omega
              go_wp2_with fail
              refine HLO.out.mono ?_
              rintro e w1 ⟨rfl, rfl⟩
              go_wp2_with fail
              go_ret2
              exact ⟨by rw [hF.out]; rfl, HBL.out⟩
            · have hdd1 : (48 : Int) ≤ (c.toNat : Int) := by omega
              have hdd2 : ¬ (c.toNat : Int) ≤ 57 := by omega
              go_wp2_with fail
              refine HLO.out.mono ?_
              rintro e w1 ⟨rfl, rfl⟩
              go_wp2_with fail
              go_ret2
              exact ⟨by rw [hF.out]; rfl, HBL.out⟩
        · clear hl
          have l9 : ¬ v ≤ 122 := by omega
          rcases h95 with h95 | h95
          · rcases hdd with hdd | hdd
            · have hdd3 : ¬ (48 : Int) ≤ (c.toNat : Int) := by omega
              go_wp2_with fail
              refine HLO.out.mono ?_
              rintro e w1 ⟨rfl, rfl⟩
              go_wp2_with fail
              refine HLO.out.mono ?_
              rintro e w1 ⟨rfl, rfl⟩
              go_wp2_with fail
              go_ret2
              exact ⟨by rw [hF.out]; rfl, HBL.out⟩
            · have hdd1 : (48 : Int) ≤ (c.toNat : Int) := by omega
              have hdd2 : ¬ (c.toNat : Int) ≤ 57 := by omega
              go_wp2_with fail
              refine HLO.out.mono ?_
              rintro e w1 ⟨rfl, rfl⟩
              go_wp2_with fail
              refine HLO.out.mono ?_
              rintro e w1 ⟨rfl, rfl⟩
              go_wp2_with fail
              go_ret2
              exact ⟨by rw [hF.out]; rfl, HBL.out⟩
          · rcases hdd with hdd | hdd
            · have hdd3 : ¬ (48 : Int) ≤ (c.toNat : Int) := by omega
              go_wp2_with fail
              refine HLO.out.mono ?_
              rintro e w1 ⟨rfl, rfl⟩
              go_wp2_with fail
              refine HLO.out.mono ?_
              rintro e w1 ⟨rfl, rfl⟩
              go_wp2_with fail
              go_ret2
              exact ⟨by rw [hF.out]; rfl, HBL.out⟩
            · have hdd1 : (48 : Int) ≤ (c.toNat : Int) := by omega
              have hdd2 : ¬ (c.toNat : Int) ≤ 57 := by omega
              go_wp2_with fail
              refine HLO.out.mono ?_
              rintro e w1 ⟨rfl, rfl⟩
              go_wp2_with fail
              refine HLO.out.mono ?_
              rintro e w1 ⟨rfl, rfl⟩
              go_wp2_with fail
              go_ret2
              exact ⟨by rw [hF.out]; rfl, HBL.out⟩
        · clear hl
          have l9 : ¬ v - 87 < 16 := by omega
          have l8 : 16 ≤ v - 87 := by omega
          rcases h95 with h95 | h95
          · rcases hdd with hdd | hdd
            · have hdd3 : ¬ (48 : Int) ≤ (c.toNat : Int) := by omega
              go_wp2_with fail
              refine HLO.out.mono ?_
              rintro e w1 ⟨rfl, rfl⟩
              go_wp2_with fail
              refine HLO.out.mono ?_
              rintro e w1 ⟨rfl, rfl⟩
              go_wp2_with fail
              refine HLO.out.mono ?_
              rintro e w1 ⟨rfl, rfl⟩
              go_wp2_with fail
              go_ret2
              exact ⟨by rw [hF.out]; rfl, HBL.out⟩
            · have hdd1 : (48 : Int) ≤ (c.toNat : Int) := by omega
              have hdd2 : ¬ (c.toNat : Int) ≤ 57 := by omega
              go_wp2_with fail
              refine HLO.out.mono ?_
              rintro e w1 ⟨rfl, rfl⟩
              go_wp2_with fail
              refine HLO.out.mono ?_
              rintro e w1 ⟨rfl, rfl⟩
              go_wp2_with fail
              refine HLO.out.mono ?_
              rintro e w1 ⟨rfl, rfl⟩
              go_wp2_with fail
              go_ret2
              exact ⟨by rw [hF.out]; rfl, HBL.out⟩
          · rcases hdd with hdd | hdd
            · have hdd3 : ¬ (48 : Int) ≤ (c.toNat : Int) := by omega
              go_wp2_with fail
              refine HLO.out.mono ?_
              rintro e w1 ⟨rfl, rfl⟩
              go_wp2_with fail
              refine HLO.out.mono ?_
              rintro e w1 ⟨rfl, rfl⟩
              go_wp2_with fail
              refine HLO.out.mono ?_
              rintro e w1 ⟨rfl, rfl⟩
              go_wp2_with fail
              go_ret2
              exact ⟨by rw [hF.out]; rfl, HBL.out⟩
            · have hdd1 : (48 : Int) ≤ (c.toNat : Int) := by omega
              have hdd2 : ¬ (c.toNat : Int) ≤ 57 := by omega
              go_wp2_with fail
              refine HLO.out.mono ?_
              rintro e w1 ⟨rfl, rfl⟩
              go_wp2_with fail
              refine HLO.out.mono ?_
              rintro e w1 ⟨rfl, rfl⟩
              go_wp2_with fail
              refine HLO.out.mono ?_
              rintro e w1 ⟨rfl, rfl⟩
              go_wp2_with fail
              go_ret2
              exact ⟨by rw [hF.out]; rfl, HBL.out⟩
  · have hkk : k = t.size := by omega
    have hF : Hid (pu 0 bs = some a) := Hd (hdec.trans (by rw [List.drop_eq_nil_of_le (by omega)]; rfl))
    subst hkk
    clear hdec hal
    go_wp2
    go_ret2
    exact ⟨by rw [← HV.out, puS, hF.out]; rfl, HBL.out⟩
def Laid3 (w : World) : Prop := TabAt w ∧ ∃ te pe, w.cell? ⟨2, 0, none⟩ = some (.iface te pe)
theorem lt_of_cell {w : World} {b o : Nat} {v : Value} (h : w.cell? ⟨b, o, none⟩ = some v) : b < w.heap.size := by
 rcases Nat.lt_or_ge b w.heap.size with h' | h'
 · exact h'
 · simp [World.cell?, Array.getElem?_eq_none h'] at h
theorem Laid3.below {w w' : World} (h : Laid3 w) (hb : Below w.heap.size w w') : Laid3 w' := by
 obtain ⟨ht, te, pe, hc⟩ := h
 exact ⟨ht.below hb ht.lt, te, pe, (hb.cell (p := ⟨2, 0, none⟩) (lt_of_cell hc)).trans hc⟩
theorem Laid3.alloc {w : World} (h : Laid3 w) (o : Obj) : Laid3 (w.alloc o) := h.below ((Below.refl _ _).alloc (Nat.le_refl _) o)
set_option maxRecDepth 100000 in
theorem parse_yes (t : ByteArray) (h4 : t.size = 4) (v : Int) (hv : pu 0 t.data.toList = some v) (w : World) : Calls Tryz.prog 305 #[.string t, .int .i64 16, .int .i64 16] w fun e w' => e = .returned (.tuple #[.int .u64 v, .nilIface]) ∧ Below w.heap.size w w' := by
 have hP := parse_in t h4 w
 rw [puS, hv] at hP
 have HP := Hd hP
 clear hP
 go_enter Tryz.func305, Tryz.ntmps305
 go_wp2_with fail
 refine HP.out.mono ?_
 rintro e w1 ⟨rfl, hb⟩
 have HB := Hd hb
 clear hb
 go_wp2_with fail
 go_ret2
 exact ⟨rfl, HB.out⟩
set_option maxRecDepth 100000 in
theorem parse_no (t : ByteArray) (h4 : t.size = 4) (hv : pu 0 t.data.toList = none) (w : World) (h3 : Laid3 w) : Calls Tryz.prog 305 #[.string t, .int .i64 16, .int .i64 16] w fun e w' => ∃ N, e = .returned (.tuple #[.int .u64 0, .iface 257 (.pointer (some ⟨N, 0, none⟩))]) ∧ Below w.heap.size w w' := by
 have hP := parse_in t h4 w
 rw [puS, hv] at hP
 have HP := Hd hP
 have H3 := Hd h3
 clear hP h3
 go_enter Tryz.func305, Tryz.ntmps305
 go_wp2_with fail
 refine HP.out.mono ?_
 rintro e w1 ⟨rfl, hb⟩
 obtain ⟨te, pe, hc⟩ := (H3.out.below hb).2
 have HE := Hd (toError_syntax ⟨#[80, 97, 114, 115, 101, 85, 105, 110, 116]⟩ t 16 16 (.iface te pe) w1 (by omega) hc (.inr ⟨te, pe, rfl⟩))
 have HB := Hd hb
 clear hb hc
 go_wp2_with fail
 refine HE.out.mono ?_
 rintro e w2 ⟨N, rfl, hb2⟩
 have HB2 := Hd hb2
 clear hb2
 go_wp2_with fail
 go_ret2
 exact ⟨N, rfl, HB.out.trans (HB2.out.mono HB.out.size)⟩
def unitS (l : List UInt8) : Value := match unitAt l with | some u => .tuple #[.int .i64 u, .bool true] | none => .tuple #[.int .i64 0, .bool false]
theorem unit_pu (a b c d : UInt8) (r : List UInt8) : unitAt (92 :: 117 :: a :: b :: c :: d :: r) = pu 0 [a, b, c, d] := by
 simp only [unitAt, pu]
 cases hexB a <;> cases hexB b <;> cases hexB c <;> cases hexB d <;> simp [hexV]
theorem unit_pre {l : List UInt8} (h : pre [92, 117] l = false) : unitAt l = none := by
 cases hu : unitAt l with
 | none => rfl
 | some u =>
   obtain ⟨t, rfl⟩ := unitAt_head hu
   cases h
theorem unit_short {l : List UInt8} (h : l.length < 6) : unitAt l = none := by
 cases hu : unitAt l with
 | none => rfl
 | some u => have := unitAt_len hu; omega
theorem unit_long {l : List UInt8} (h : pre [92, 117] l = true) (hl : 6 ≤ l.length) : unitAt l = pu 0 ((l.drop 2).take 4) := by
 match l, hl with
 | x :: y :: a :: b :: c :: d :: r, _ =>
   unfold pre at h
   simp only [List.isPrefixOf_cons_cons, Bool.and_eq_true, beq_iff_eq] at h
   obtain ⟨rfl, rfl, _⟩ := h
   rw [unit_pu]
   rfl
theorem cut_no (s q : ByteArray) (w : World) (h : pre q.data.toList s.data.toList = false) : Calls Tryz.prog 304 #[.string s, .string q] w fun e w' => e = .returned (.tuple #[.string s, .bool false]) ∧ w = w' :=
 (cutPrefix_any s q w).mono fun _ _ ⟨he, hw⟩ => ⟨by
  have h' : Lib.hasPrefix s.data.toList q.data.toList = false := h
  rw [he, Lib.trimPrefix, h', if_neg (by simp), mk_of rfl], hw.symm⟩
theorem cut_yes (s q : ByteArray) (w : World) (h : pre q.data.toList s.data.toList = true) : Calls Tryz.prog 304 #[.string s, .string q] w fun e w' => e = .returned (.tuple #[.string (s.extract q.size s.size), .bool true]) ∧ w = w' :=
 (cutPrefix_any s q w).mono fun _ _ ⟨he, hw⟩ => ⟨by
  have h' : Lib.hasPrefix s.data.toList q.data.toList = true := h
  rw [he, Lib.trimPrefix, h', if_pos rfl, len_data, mk_of (ext_data s q.size)], hw.symm⟩
set_option maxRecDepth 100000 in
theorem unit_any (s : ByteArray) (w : World) (hs : s.size ≤ 9000) (h3 : Laid3 w) : Calls Tryz.prog 289 #[.string s] w fun e w' => e = .returned (unitS s.data.toList) ∧ Below w.heap.size w w' := by
 have hl := len_data s
 cases hp : pre [92, 117] s.data.toList
 · have HC := Hd (cut_no s ⟨#[92, 117]⟩ w hp)
   have hr : Hid (unitS s.data.toList = .tuple #[.int .i64 0, .bool false]) := Hd (by rw [unitS, unit_pre hp])
   clear hp hl h3
   go_enter Tryz.func289, Tryz.ntmps289
   go_wp2_with fail
   refine HC.out.mono ?_
   rintro e w1 ⟨rfl, rfl⟩
   go_wp2_with fail
   go_ret2
   exact ⟨by rw [hr.out]; rfl, Below.refl _ _⟩
 · have hC := cut_yes s ⟨#[92, 117]⟩ w hp
   rw [show (⟨#[92, 117]⟩ : ByteArray).size = 2 from rfl] at hC
   have h2 : 2 ≤ s.size := by have := pre_len hp; rw [hl] at this; exact this
   obtain ⟨t, ht⟩ : ∃ t, s.extract 2 s.size = t := ⟨_, rfl⟩
   have htd : t.data.toList = s.data.toList.drop 2 := by rw [← ht, ext_data]
   have hts : t.size = s.size - 2 := by rw [← ht, ext_size]
   rw [ht] at hC
   have HC := Hd hC
   clear hC ht
   by_cases h6 : s.size < 6
   · have hr : Hid (unitS s.data.toList = .tuple #[.int .i64 0, .bool false]) := Hd (by rw [unitS, unit_short (by omega)])
     have e4 : (t.size : Int) < 4 := by omega
     clear hp hl h3 htd
     go_enter Tryz.func289, Tryz.ntmps289
     go_wp2_with fail
     refine HC.out.mono ?_
     rintro e w1 ⟨rfl, rfl⟩
     go_wp2_with fail
     go_ret2
     exact ⟨by rw [hr.out]; rfl, Below.refl _ _⟩
   · have e4 : ¬ (t.size : Int) < 4 := by omega
     have e5 : 4 ≤ t.size := by omega
     have hu := unit_long hp (by omega)
     rw [← htd, ← ext_take t 4] at hu
     have h4s : (t.extract 0 4).size = 4 := by simp; omega
     cases hv : pu 0 (t.extract 0 4).data.toList with
     | none =>
       have hr : Hid (unitS s.data.toList = .tuple #[.int .i64 0, .bool false]) := Hd (by rw [unitS, hu, hv])
       have HP := Hd (parse_no (t.extract 0 4) h4s hv w h3)
       clear hp hl h3 htd hu hv h4s
       go_enter Tryz.func289, Tryz.ntmps289
       go_wp2_with fail
       refine HC.out.mono ?_
       rintro e w1 ⟨rfl, rfl⟩
       go_wp2_with fail
       refine HP.out.mono ?_
       rintro e w1 ⟨N, rfl, hb⟩
       have HB := Hd hb
       clear hb
       go_wp2_with fail
       go_quiet (fail)
       go_wp2_with fail
       go_ret2
       exact ⟨by rw [hr.out]; rfl, bdraw HB.out _⟩
     | some v =>
       have hr : Hid (unitS s.data.toList = .tuple #[.int .i64 v, .bool true]) := Hd (by rw [unitS, hu, hv])
       have HP := Hd (parse_yes (t.extract 0 4) h4s v hv w)
       have hvb := unitAt_bd (hu.trans hv)
       obtain ⟨v0, v1⟩ := hvb
       clear hp hl h3 htd hu hv h4s
       go_enter Tryz.func289, Tryz.ntmps289
       go_wp2_with fail
       refine HC.out.mono ?_
       rintro e w1 ⟨rfl, rfl⟩
       go_wp2_with fail
       refine HP.out.mono ?_
       rintro e w1 ⟨rfl, hb⟩
       have HB := Hd hb
       clear hb
       go_wp2_with fail
       go_quiet (fail)
       go_wp2_with fail
       go_ret2
       exact ⟨by rw [hr.out]; rfl, bdraw HB.out _⟩
theorem unit_at (s : ByteArray) (k : Nat) (w : World) (hs : s.size ≤ 9000) (h3 : Laid3 w) : Calls Tryz.prog 289 #[.string (s.extract k s.size)] w fun e w' => e = .returned (unitS (s.data.toList.drop k)) ∧ Below w.heap.size w w' := by
 have h := unit_any (s.extract k s.size) w (by rw [ext_size]; omega) h3
 rwa [ext_data] at h
def SomeBool (e : Ending) : Prop := ∃ b, e = .returned (.bool b)
theorem valid_some (r : Int) (h0 : 0 ≤ r) (w : World) : Calls Tryz.prog 291 #[.int .i32 r] w fun e w' => SomeBool e ∧ w = w' := by
 go_enter Tryz.func291, Tryz.ntmps291
 go_wp2
 all_goals go_ret
 all_goals (refine ⟨?_, rfl⟩; exact ⟨_, rfl⟩)
theorem below_iter (w : World) (s : ByteArray) (i : Nat) : Below w.heap.size w (w.iter s i) := (Below.refl _ _).alloc (Nat.le_refl _) _
theorem enc_size {r : Int} (h : 128 ≤ r) : 2 ≤ (Utf8.encode r).size ∧ (Utf8.encode r).size ≤ 4 := by
 have hc : 128 ≤ (if Utf8.valid r then r.toNat else Utf8.runeError) := by
   split
   · omega
   · simp [Utf8.runeError]
 refine ⟨?_, encode_size_le r⟩
 unfold Utf8.encode
 simp only
 generalize (if Utf8.valid r = true then r.toNat else Utf8.runeError) = c at *
 rw [if_neg (by omega)]
 split
 · exact Nat.le_refl 2
 · split
   · exact Nat.le_succ 2
   · exact Nat.le_succ_of_le (Nat.le_succ 2)
theorem enc_one {r : Int} (h : 128 ≤ r) (h2 : (Utf8.encode r).size = 2) : 128 ≤ ((Utf8.encode r)[1]'(by omega)).toNat := by
 have hc : 128 ≤ (if Utf8.valid r then r.toNat else Utf8.runeError) := by
  split
  · omega
  · simp [Utf8.runeError]
 have e : Utf8.encode r = ⟨#[UInt8.ofNat (0xC0 + (if Utf8.valid r then r.toNat else Utf8.runeError) / 64), UInt8.ofNat (0x80 + (if Utf8.valid r then r.toNat else Utf8.runeError) % 64)]⟩ := by
  unfold Utf8.encode at h2 ⊢
  simp only at h2 ⊢
  generalize (if Utf8.valid r = true then r.toNat else Utf8.runeError) = c at *
  rw [if_neg (by omega)] at h2 ⊢
  split at h2
  · rename_i hl; rw [if_pos hl]
  · split at h2
    · exact absurd h2 (by show ¬ (3 = 2); decide)
    · exact absurd h2 (by show ¬ (4 = 2); decide)
 generalize (if Utf8.valid r = true then r.toNat else Utf8.runeError) = c at *
 simp only [e]
 show 128 ≤ (UInt8.ofNat (0x80 + c % 64)).toNat
 rw [UInt8.toNat_ofNat']
 omega
theorem indexByte_end (c : UInt8) (w : World) : Calls Tryz.prog 200 #[.string ByteArray.empty, .int .u8 (c.toNat : Int)] w fun e w' => e = .returned (.int .i64 (-1)) ∧ w' = w :=
 indexByte_any ByteArray.empty (c.toNat : Int) w
theorem slice_two (w : World) : (Instr.slice 9 (.string ⟨#[10, 13]⟩) (some (.int .i64 2)) none none).run Tryz.prog w = .ok (.string ((⟨#[10, 13]⟩ : ByteArray).extract 2 2)) w := by kernel_rfl
set_option maxRecDepth 100000 in
set_option maxHeartbeats 1000000 in
theorem indexRune_high (q : ByteArray) (hq3 : q = ⟨#[10, 13]⟩) (hq2 : q.size = 2) (hq : ∀ i (h : i < q.size), q[i].toNat < 128) (r : Int) (h0 : 128 ≤ r) (w : World) : Calls Tryz.prog 263 #[.string q, .int .i32 r] w fun e w' => e = .returned (.int .i64 (-1)) ∧ Below w.heap.size w w' := by
 have hsl : ∀ w, (Instr.slice 9 (.string q) (some (.int .i64 2)) none none).run Tryz.prog w = .ok (.string (q.extract 2 2)) w := by subst hq3; exact slice_two
 clear hq3
 have hr0 : (0 : Int) ≤ r := by omega
 have hr1 : ¬ r < 128 := by omega
 cases hE : (r == 65533)
 · have HV := Hd (valid_some r hr0 w)
   have he := enc_size h0
   obtain ⟨E, hEE⟩ : ∃ E, Utf8.encode r = E := ⟨_, rfl⟩
   rw [hEE] at he
   obtain ⟨he0, he1⟩ := he
   go_enter Tryz.func263, Tryz.ntmps263
   go_wp2_with fail
   refine HV.out.mono ?_
   rintro e w1 ⟨⟨b, rfl⟩, rfl⟩
   cases b
   · go_wp2_with fail
     go_ret
     exact ⟨rfl, Below.refl _ _⟩
   · go_wp2_with fail
     go_wp2_with fail
     go_step3
     go_wp2_with fail
     refine wp_loop_once ?_
     by_cases hs2 : E.size = 2
     · have e1 : (E.size : Int) - 1 = 1 := by omega
       have h1q : 1 < q.size := by omega
       have h1E : 1 < E.size := by omega
       have hqs : (1 : Int) < (q.size : Int) := by omega
       have hes : (1 : Int) < (E.size : Int) := by omega
       have hne : ((q[1].toNat : Int) != (E[1].toNat : Int)) = true := by
        have h1 := hq 1 h1q
        have h2 : 128 ≤ E[1].toNat := by
         subst hEE
         exact enc_one h0 hs2
        simp
        omega
       go_wp2_with fail
       go_step3
       go_wp2_with fail
       go_quiet (fail)
       go_wp2_with fail
       have hw2 : IntKind.i64.wrap 2 = 2 := by decide
       go_quiet ((go_at_call 200; exact (indexByte_end E[1] _).mono fun _ _ h => ⟨h.1, _, h.2⟩))
       go_wp2_with fail
       rw [Exit.noGoto_ret]
       simp +zetaDelta only [Exit.inBlock, Exit.then, Exit.noGoto]
       refine bodyPost_ret (results_tmp rfl _ _ _) rfl ?_
       exact ⟨rfl, bdraw (Below.refl _ _) _⟩
     · have e1 : ¬ (E.size : Int) - 1 < (q.size : Int) := by omega
       go_wp2_with fail
       go_ret
       exact ⟨rfl, Below.refl _ _⟩
 · go_enter Tryz.func263, Tryz.ntmps263
   go_wp2_with fail
   go_loopg [5, 6] 2 (fun g _ _ wx => ∃ i : Nat, i + g = 2 ∧ wx = w.iter q i)
   case atStart => exact ⟨0, by omega, rfl⟩
   case round =>
     obtain ⟨i, hi, rfl⟩ := hrel
     cases gk with
     | zero =>
       obtain rfl : i = 2 := by omega
       have hnx := fun ty => run_next_end (P := Tryz.prog) w q 2 ty (by omega)
       go_wp2
       go_ret
       exact ⟨rfl, below_iter _ _ _⟩
     | succ g =>
       have hi2 : i < q.size := by omega
       have hlt := hq i hi2
       have hnx := fun ty => run_next_ascii (P := Tryz.prog) w q i ty hi2 hlt
       have hne : ((q[i].toNat : Int) == 65533) = false := by simp; omega
       go_wp2
       go_roundg g
       case measure => omega
       case rel => exact ⟨i + 1, by omega, rfl⟩
theorem decode_tail (s : ByteArray) (pos : Nat) : ∀ j, 1 ≤ j → j < (Utf8.decode s pos).2 → pos + j < s.size ∧ (s.get! (pos + j)).toNat / 64 = 2 := by
 intro j h1 h2
 have hj : j = 1 ∨ j = 2 ∨ j = 3 ∨ 4 ≤ j := by omega
 simp only [Utf8.decode] at h2
 rcases hj with rfl | rfl | rfl | hj
 all_goals
  repeat' split at h2
  all_goals simp_all
  all_goals omega
theorem get_at (s : ByteArray) (i : Nat) (h : i < s.size) : s.get! i = s[i] := by
 simp [ByteArray.get!, h]
 rfl
theorem noAny_skip {s : ByteArray} {i K : Nat} (hn : Lib.NoAny s.data.toList [10, 13] i) (hi : i < s.size) (h128 : 128 ≤ (s[i]'hi).toNat) (hK : ∀ j, 1 ≤ j → j < K → i + j < s.size ∧ (s.get! (i + j)).toNat / 64 = 2) : Lib.NoAny s.data.toList [10, 13] (i + K) := by
 intro j b hj hb
 by_cases h1 : j < i
 · exact hn j b h1 hb
 · have hbig : 128 ≤ b.toNat := by
    have hjl : j < s.data.toList.length := (List.getElem?_eq_some_iff.1 hb).1
    rw [len_data] at hjl
    have hb' : s[j] = b := by
      have := (List.getElem?_eq_some_iff.1 hb).2
      rw [← this]
      rfl
    by_cases h2 : j = i
    · subst h2; rw [← hb']; exact h128
    · have := (hK (j - i) (by omega) (by omega)).2
      rw [show i + (j - i) = j by omega, get_at s j hjl, hb'] at this
      omega
   have h10 : b ≠ 10 := fun e => by subst e; exact absurd hbig (by decide)
   have h13 : b ≠ 13 := fun e => by subst e; exact absurd hbig (by decide)
   simp [h10, h13]
theorem below_iterAt {B : Nat} {a w : World} (h : Below B a w) {k : Nat} (hk : B ≤ k) (s : ByteArray) (p : Nat) : Below B a (w.iterAt k s p) := by
 refine ⟨h.os, h.tape, h.output, by simpa [World.iterAt] using h.size, fun j hj => ?_⟩
 rw [← h.block j hj]
 show (w.heap.setIfInBounds k (.stringIter s p))[j]? = w.heap[j]?
 rw [Array.getElem?_setIfInBounds_ne (by omega)]
theorem short_set (n : Nat) (h8 : (n : Int) ≤ 8) (w : World) : Calls Tryz.prog 264 #[.int .i64 (n : Int)] w fun e w' => e = .returned (.bool false) ∧ w = w' := by
 go_enter Tryz.func264, Tryz.ntmps264
 go_wp2
 go_ret
 exact ⟨ret_bool (by simp; omega), rfl⟩
set_option maxRecDepth 100000 in
set_option maxHeartbeats 1000000 in
theorem indexAny_short (s : ByteArray) (w : World) (h8 : s.size ≤ 8) : Calls Tryz.prog 231 #[.string s, .string ⟨#[10, 13]⟩] w fun e w' => e = .returned (.int .i64 (Lib.indexAny s.data.toList [10, 13])) ∧ Below w.heap.size w w' := by
 have hl := len_data s
 have h8z : (s.size : Int) ≤ 8 := by omega
 have HLEN := Hd hl
 clear hl
 go_enter Tryz.func231, Tryz.ntmps231
 go_wp2_with fail
 refine (short_set s.size h8z _).mono ?_
 rintro e w' ⟨rfl, rfl⟩
 go_wp2_with fail
 go_loopg [9, 10] s.size (fun g _ _ wx => ∃ i : Nat, i + g = s.size ∧ wx.heap[w.heap.size]? = some (.stringIter s i) ∧ Below w.heap.size w wx ∧ Aside (Lib.NoAny s.data.toList [10, 13] i))
 case atStart => exact ⟨0, by omega, World.iter_heap _ _ _, below_iter _ _ _, Aside.intro (Lib.NoAny.zero _ _)⟩
 case round =>
  obtain ⟨i, hig, hit, hb, HN⟩ := hrel
  have HB := Hd hb
  have hbs := hb.size
  clear hb
  by_cases hi : i < s.size
  · have HIT := Hd hit
    have hlt : w.heap.size < wr.heap.size := (Array.getElem?_eq_some_iff.1 hit).1
    by_cases ha : (s[i]'hi).toNat < 128
    · have hnx := fun ty => Lib.run_next_ascii_at (P := Tryz.prog) wr w.heap.size s i ty hit hi ha
      obtain ⟨x, hx⟩ : ∃ x : UInt8, s[i]'hi = x := ⟨_, rfl⟩
      have hxl : s.data.toList[i]? = some x := by rw [← hx]; exact Lib.data_getElem? s i hi
      rw [hx] at hnx ha
      have hI := indexRune_ascii ⟨#[10, 13]⟩ (x.toNat : Int) (wr.iterAt w.heap.size s (i + 1)) (by omega) (by omega)
      rw [show ((x.toNat : Int)).toNat.toUInt8 = x by simp] at hI
      have hcon := Lib.contains_iff_indexByte [10, 13] x
      obtain ⟨r, hr⟩ : ∃ r, Lib.indexByte (⟨#[10, 13]⟩ : ByteArray).data.toList x = r := ⟨_, rfl⟩
      rw [hr] at hI
      change Lib.indexByte [10, 13] x = r at hr
      rw [hr] at hcon
      have HI := Hd hI
      have Hxl := Hd hxl
      clear hit hx hxl hI hr
      cases hin : ([10, 13] : List UInt8).contains x
      · have hneg : ¬ (0 : Int) ≤ r := by rw [hin] at hcon; exact of_decide_eq_false hcon.symm
        have HN2 := Hd (HN.out.succ Hxl.out hin)
        clear hcon hin HN
        go_wp2_with fail
        refine HI.out.mono ?_
        rintro e w2 ⟨rfl, rfl⟩
        go_wp2_with fail
        go_roundg (gk - 1)
        case measure => omega
        case rel => exact ⟨i + 1, by omega, Lib.iterAt_heap _ _ _ _ _ HIT.out, below_iterAt HB.out (Nat.le_refl _) _ _, Aside.intro HN2.out⟩
      · have hpos : (0 : Int) ≤ r := by rw [hin] at hcon; exact of_decide_eq_true hcon.symm
        have hr : Hid (Lib.indexAny s.data.toList [10, 13] = i) := Hd (Lib.indexAny_hit HN.out Hxl.out hin)
        clear hcon hin HN
        go_wp2_with fail
        refine HI.out.mono ?_
        rintro e w2 ⟨rfl, rfl⟩
        go_wp2_with fail
        go_ret
        exact ⟨ret_i hr.out.symm, below_iterAt HB.out (Nat.le_refl _) _ _⟩
    · have hd := decode_high s i hi (by omega)
      have hnx := fun ty => Lib.run_next_any_at (P := Tryz.prog) wr w.heap.size s i ty hit hi
      have HN2 := Hd (noAny_skip HN.out hi (by omega) (decode_tail s i))
      have hw4 : i + (Utf8.decode s i).2 ≤ s.size := by
        by_cases h1 : (Utf8.decode s i).2 = 1
        · omega
        · have := (decode_tail s i ((Utf8.decode s i).2 - 1) (by omega) (by omega)).1
          omega
      obtain ⟨c, hc⟩ : ∃ c, (Utf8.decode s i).1 = c := ⟨_, rfl⟩
      obtain ⟨K, hK⟩ : ∃ K, (Utf8.decode s i).2 = K := ⟨_, rfl⟩
      rw [hc] at hd hnx
      rw [hK] at hd hnx HN2 hw4
      have HI := Hd (indexRune_high ⟨#[10, 13]⟩ rfl rfl (by decide) (c : Int) (by omega) (wr.iterAt w.heap.size s (i + K)))
      clear hit hc hK HN
      go_wp2_with fail
      refine HI.out.mono ?_
      rintro e w2 ⟨rfl, hb2⟩
      have HBb := Hd hb2
      clear hb2
      go_wp2_with fail
      go_roundg (gk - K)
      case measure => omega
      case rel => exact ⟨i + K, by omega, (HBb.out.block w.heap.size (by simpa [World.iterAt] using hlt)).trans (Lib.iterAt_heap _ _ _ _ _ HIT.out), (below_iterAt HB.out (Nat.le_refl _) s (i + K)).trans (HBb.out.mono (by simpa [World.iterAt] using hbs)), Aside.intro HN2.out⟩
  · obtain rfl : i = s.size := by omega
    have hnx := fun ty => Lib.run_next_end_at (P := Tryz.prog) wr w.heap.size s s.size ty hit hi
    have hr : Hid (Lib.indexAny s.data.toList [10, 13] = -1) := Hd (Lib.indexAny_none (by rw [HLEN.out]; exact HN.out))
    clear hit HN
    go_wp2_with fail
    go_ret
    exact ⟨ret_i hr.out.symm, HB.out⟩
end Go.Proofs.YtpkmbhnikilihaaGreatDoor
