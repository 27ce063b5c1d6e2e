import PyProof.Rows.All
import Wide.All
import OpenK.AllK
import Wide.FinOn
import HandS.ForMost
import HandS.Gcd
import HandS.TupMul
import HandS.Zip
import HandS.TupLe
import HandS.Walk
import HandS.Wide
import KE.KTupSum
import KE.SortData
import KE.DataMinMax
import PyProof.TypeEq
import PyProof.TypeOfCall
import KE.GoesEnum
import HandS.Style
import HandS.Exc
import HandS.Ends
import PyProof.ReprRoads
import KE.KMathG
import HandS.TupAny
import HandS.Conv
import HandS.Defaults
import PySem.Challenge.RW_evenwheels_k02_whole_beats_of_loads
-- DL1
set_option Elab.async false
set_option linter.all false
set_option maxRecDepth 100000
set_option maxHeartbeats 2000000
/-! Data, not addresses: what a def's body does, told of data in slots. By an AI agent. -/
namespace Ewl
open PySem L2

/-! ### heaps that grow -/
def Ex (H H' : Hp) : Prop := ∀ a o, H a = some o → H' a = some o
theorem Ex.refl (H : Hp) : Ex H H := fun _ _ h => h
theorem Ex.trans {H H1 H2 : Hp} (a : Ex H H1) (b : Ex H1 H2) : Ex H H2 := fun x o h => b x o (a x o h)
theorem Ex.new {H : Hp} {p : Addr} {o : HO} (h : H p = none) : Ex H (upd H p o) := fun a u e => by
  rw [upd_ne (ne_of_none e h)]
  exact e
theorem Ex.back {H H' : Hp} {p : Addr} (e : Ex H H') (h : H' p = none) : H p = none := by
  cases h1 : H p with
  | none => rfl
  | some o => rw [e p o h1] at h; cases h
theorem Ex.put {H H' : Hp} {p : Addr} {o : HO} (e : Ex H H') (h : H p = none) : Ex H (upd H' p o) := fun a u ha => by
  rw [upd_ne (ne_of_none ha h)]
  exact e a u ha
theorem Ex.both {H H' : Hp} {p : Addr} {o : HO} (e : Ex H H') : Ex (upd H p o) (upd H' p o) := fun a u ha => by
  by_cases q : a = p
  · subst q; rw [upd_same] at ha ⊢; exact ha
  · rw [upd_ne q] at ha ⊢; exact e a u ha
theorem ex_rd {H H' : Hp} {a : Addr} {u : HO} (e : Ex H H') (h : Rd H a u) : Rd H' a u := by
  rcases h with h | ⟨o, h⟩
  · exact .inl (e a _ h)
  · exact .inr ⟨o, e a _ h⟩
theorem ex_l {K : PySem.W.Frag} {H H' : Hp} {a : Addr} {xs : List V} (e : Ex H H') (h : SqL K H a xs) : SqL K H' a xs := by
  rcases h with h | h
  · exact .inl (ex_rd e h)
  · exact .inr h
theorem ex_t {K : PySem.W.Frag} {H H' : Hp} {a : Addr} {xs : List V} (e : Ex H H') (h : SqT K H a xs) : SqT K H' a xs := by
  rcases h with h | h
  · exact .inl (ex_rd e h)
  · exact .inr h
/-- a key as data -/
def kyD : Key → PyData
  | .inl i => .int i
  | .inr x => .str x
/-- a dict (ints and texts as keys) as data; one with tuples as keys -/
abbrev dKd (kvs : List (Key × PyData)) : PyData := .dict ((.bool false, .none) :: kvs.map fun p => (kyD p.1, p.2))
abbrev dTd (kvs : List (List Key × PyData)) : PyData := .dict ((.bool true, .none) :: kvs.map fun p => (.tuple (p.1.map kyD), p.2))
mutual
/-- v is the data d: tuples and lists by their items, dicts by their pairs; what is written here stays -/
inductive Dd (K : PySem.W.Frag) (H : Hp) : V → PyData → Prop
  | non : Dd K H .non .none
  | bl (b : Bool) : Dd K H (.bl b) (.bool b)
  | int (i : Int) : Dd K H (.int i) (.int i)
  | str (x : Str) : Dd K H (.str x) (.str x)
  | lst {a : Addr} {xs : List V} {ds : List PyData} : SqL K H a xs → DdAll K H xs ds → Dd K H (.ref a) (.list ds)
  | tup {a : Addr} {xs : List V} {ds : List PyData} : H a = some (.tup xs) → DdAll K H xs ds → Dd K H (.ref a) (.tuple ds)
  | dk {a : Addr} {o : Obj} {ks : List Key} {xs : List V} {ds : List PyData} : H a = some (.frz o (.dK (ks.zip xs))) → ks.length = ds.length → DdAll K H xs ds → Dd K H (.ref a) (dKd (ks.zip ds))
  | dt {a : Addr} {o : Obj} {ks : List (List Key)} {xs : List V} {ds : List PyData} : H a = some (.frz o (.dT (ks.zip xs))) → ks.length = ds.length → DdAll K H xs ds → Dd K H (.ref a) (dTd (ks.zip ds))
inductive DdAll (K : PySem.W.Frag) (H : Hp) : List V → List PyData → Prop
  | nil : DdAll K H [] []
  | cons {v : V} {vs : List V} {d : PyData} {ds : List PyData} : Dd K H v d → DdAll K H vs ds → DdAll K H (v :: vs) (d :: ds)
end
mutual
theorem dd_dp {K : PySem.W.Frag} {H : Hp} : ∀ (d : PyData) {v : V}, d.hasDict = false → Dd K H v d → Dp K H v d
  | .none, _, _, h => by cases h; exact .non
  | .bool b, _, _, h => by cases h; exact .bl b
  | .int i, _, _, h => by cases h; exact .int i
  | .str x, _, _, h => by cases h; exact .str x
  | .list ds, _, n, h => by
    cases h with
    | lst s a => exact .lst s (ddAll_dp ds (by simpa only [PyData.hasDict] using n) a)
  | .tuple ds, _, n, h => by
    cases h with
    | tup s a => exact .tup (SqT.of s) (ddAll_dp ds (by simpa only [PyData.hasDict] using n) a)
  | .dict _, _, n, _ => by simp [PyData.hasDict] at n
theorem ddAll_dp {K : PySem.W.Frag} {H : Hp} : ∀ (ds : List PyData) {vs : List V}, PyData.hasDictAll ds = false → DdAll K H vs ds → DpAll K H vs ds
  | [], _, _, h => by cases h; exact .nil
  | d :: ds, _, n, h => by
    rw [PyData.hasDictAll, Bool.or_eq_false_iff] at n
    cases h with
    | cons h1 h2 => exact .cons (dd_dp d n.1 h1) (ddAll_dp ds n.2 h2)
end
theorem ddReads {X : Cx} {pins : List (Addr × Obj)} {σ : L2.St} {H : Hp} {s : Shared} (I : L2.Inv X pins σ H s) (d : PyData) (v : V) (u : Value) (n : d.hasDict = false) (h : Dd X.K H v d) (r : RelV v u) : ∃ as, Reads s.heap u d as := Dp.reads I d v u (dd_dp d n h) r
mutual
theorem Dd.up {K : PySem.W.Frag} {H H' : Hp} (e : Ex H H') : ∀ {v : V} {d : PyData}, Dd K H v d → Dd K H' v d
  | _, _, .non => .non
  | _, _, .bl b => .bl b
  | _, _, .int i => .int i
  | _, _, .str x => .str x
  | _, _, .lst s a => .lst (ex_l e s) (DdAll.up e a)
  | _, _, .tup s a => .tup (e _ _ s) (DdAll.up e a)
  | _, _, .dk s l a => .dk (e _ _ s) l (DdAll.up e a)
  | _, _, .dt s l a => .dt (e _ _ s) l (DdAll.up e a)
theorem DdAll.up {K : PySem.W.Frag} {H H' : Hp} (e : Ex H H') : ∀ {vs : List V} {ds : List PyData}, DdAll K H vs ds → DdAll K H' vs ds
  | _, _, .nil => .nil
  | _, _, .cons h t => .cons (Dd.up e h) (DdAll.up e t)
end
theorem dp_mono {K : PySem.W.Frag} {H H' : Hp} (e : Ex H H') (d : PyData) {v : V} (h : Dd K H v d) : Dd K H' v d := h.up e
theorem dpAll_mono {K : PySem.W.Frag} {H H' : Hp} (e : Ex H H') (ds : List PyData) {vs : List V} (h : DdAll K H vs ds) : DdAll K H' vs ds := h.up e
theorem dpAll_len {K : PySem.W.Frag} {H : Hp} : ∀ {vs : List V} {ds : List PyData}, DdAll K H vs ds → vs.length = ds.length
  | _, _, .nil => rfl
  | _, _, .cons _ h => by rw [List.length_cons, List.length_cons, dpAll_len h]
theorem dpAll_get {K : PySem.W.Frag} {H : Hp} : ∀ {vs : List V} {ds : List PyData} {i : Nat} {d : PyData}, DdAll K H vs ds → ds[i]? = some d → ∃ v, vs[i]? = some v ∧ Dd K H v d
  | _, _, _, _, .nil, e => by simp at e
  | _, _, 0, _, .cons h _, e => by simp at e; subst e; exact ⟨_, rfl, h⟩
  | _, _, i + 1, d, .cons _ t, e => by
    obtain ⟨v, h1, h2⟩ := dpAll_get (i := i) (d := d) t (by simpa using e)
    exact ⟨v, by simpa using h1, h2⟩
theorem dpAll_get' {K : PySem.W.Frag} {H : Hp} : ∀ {vs : List V} {ds : List PyData} {i : Nat} {v : V}, DdAll K H vs ds → vs[i]? = some v → ∃ d, ds[i]? = some d ∧ Dd K H v d
  | _, _, _, _, .nil, e => by simp at e
  | _, _, 0, _, .cons h _, e => by simp at e; subst e; exact ⟨_, rfl, h⟩
  | _, _, i + 1, d, .cons _ t, e => by
    obtain ⟨v, h1, h2⟩ := dpAll_get' (i := i) (v := d) t (by simpa using e)
    exact ⟨v, by simpa using h1, h2⟩
theorem dpAll_app {K : PySem.W.Frag} {H : Hp} : ∀ {vs ws : List V} {ds es : List PyData}, DdAll K H vs ds → DdAll K H ws es → DdAll K H (vs ++ ws) (ds ++ es)
  | _, _, _, _, .nil, s => s
  | _, _, _, _, .cons r t, s => .cons r (dpAll_app t s)
theorem dpAll_one {K : PySem.W.Frag} {H : Hp} {v : V} {d : PyData} (h : Dd K H v d) : DdAll K H [v] [d] := .cons h .nil
theorem dpAll_take {K : PySem.W.Frag} {H : Hp} : ∀ {vs : List V} {ds : List PyData} (n : Nat), DdAll K H vs ds → DdAll K H (vs.take n) (ds.take n)
  | _, _, 0, _ => .nil
  | _, _, _ + 1, .nil => .nil
  | _, _, n + 1, .cons r t => .cons r (dpAll_take n t)
theorem dpAll_drop {K : PySem.W.Frag} {H : Hp} : ∀ {vs : List V} {ds : List PyData} (n : Nat), DdAll K H vs ds → DdAll K H (vs.drop n) (ds.drop n)
  | _, _, 0, r => r
  | _, _, _ + 1, .nil => .nil
  | _, _, n + 1, .cons _ t => dpAll_drop n t
theorem dpAll_set {K : PySem.W.Frag} {H : Hp} {v : V} {d : PyData} (r : Dd K H v d) : ∀ {vs : List V} {ds : List PyData} (i : Nat), DdAll K H vs ds → DdAll K H (vs.set i v) (ds.set i d)
  | _, _, _, .nil => .nil
  | _, _, 0, .cons _ t => .cons r t
  | _, _, i + 1, .cons q t => .cons q (dpAll_set r i t)
theorem dpAll_erase {K : PySem.W.Frag} {H : Hp} : ∀ {vs : List V} {ds : List PyData} (i : Nat), DdAll K H vs ds → DdAll K H (vs.eraseIdx i) (ds.eraseIdx i)
  | _, _, _, .nil => .nil
  | _, _, 0, .cons _ t => t
  | _, _, i + 1, .cons q t => .cons q (dpAll_erase i t)
theorem dpAll_rep {K : PySem.W.Frag} {H : Hp} {v : V} {d : PyData} (r : Dd K H v d) : ∀ (n : Nat), DdAll K H (List.replicate n v) (List.replicate n d)
  | 0 => .nil
  | n + 1 => .cons r (dpAll_rep r n)
theorem dpAll_ints {K : PySem.W.Frag} {H : Hp} : ∀ (ns : List Int), DdAll K H (ns.map V.int) (ns.map PyData.int)
  | [] => .nil
  | n :: ns => .cons (.int n) (dpAll_ints ns)
theorem dpAll_ints' {K : PySem.W.Frag} {H : Hp} : ∀ {ns : List Int} {vs : List V}, DdAll K H vs (ns.map PyData.int) → vs = ns.map V.int
  | [], _, h => by cases h; rfl
  | n :: ns, _, h => by
    cases h with
    | cons h1 h2 => cases h1; rw [dpAll_ints' h2]; rfl

/-- no tuple -/
def NT (o : HO) : Prop := ∀ xs, o ≠ .tup xs
theorem NT.lst {xs : List V} : NT (.lst xs) := fun _ z => by cases z
theorem NT.dK {xs : List (Key × V)} : NT (.dK xs) := fun _ z => by cases z
theorem NT.dT {xs : List (List Key × V)} : NT (.dT xs) := fun _ z => by cases z
/-- the frozen part G and the heap H grow; what is no tuple is made frozen by its owner alone -/
structure Gw (G H G' H' : Hp) : Prop where
  g : Ex G G'
  h : Ex H H'
  s : Ex G' H'
  m : ∀ a o, H a = some o → NT o → G a = none → G' a = none
theorem Gw.refl {G H : Hp} (s : Ex G H) : Gw G H G H := ⟨Ex.refl G, Ex.refl H, s, fun _ _ _ _ h => h⟩
theorem Gw.trans {G H G1 H1 G2 H2 : Hp} (a : Gw G H G1 H1) (b : Gw G1 H1 G2 H2) : Gw G H G2 H2 :=
  ⟨a.g.trans b.g, a.h.trans b.h, b.s, fun x o e t n => b.m x o (a.h x o e) t (a.m x o e t n)⟩
theorem Gw.new {G H : Hp} {p : Addr} {o : HO} (s : Ex G H) (h : H p = none) : Gw G H (upd G p o) (upd H p o) :=
  ⟨Ex.new (s.back h), Ex.new h, s.both, fun a u e _ n => by rw [upd_ne (ne_of_none e h)]; exact n⟩

/-! ### what stands in a slot -/
/-- nothing that is known; data; a list of one's own; a list of lists of one's own; a dict of one's own with ints and texts as keys; one with tuples of ints as keys; a dict that the caller owns (by reference) is told as one's own too -/
inductive Sl where
  | x
  | d (d : PyData)
  | l (xs : List PyData)
  | ll (xss : List (List PyData))
  | dk (o : Option Addr) (kvs : List (Key × PyData))
  | dt (kvs : List (List Key × PyData))

/-- pairs of a dict -/
def KD {κ : Type} (K : PySem.W.Frag) (G : Hp) : List (κ × V) → List (κ × PyData) → Prop := Paired fun p q => p.1 = q.1 ∧ Dd K G p.2 q.2
theorem KD.mono {κ : Type} {K : PySem.W.Frag} {G G' : Hp} (e : Ex G G') {ps : List (κ × V)} {qs : List (κ × PyData)} (h : KD K G ps qs) : KD K G' ps qs :=
  Paired.mapP h fun _ q r => ⟨r.1, dp_mono e q.2 r.2⟩

/-- rows of one's own at the addresses as -/
def Rows (K : PySem.W.Frag) (G H : Hp) : List Addr → List (List PyData) → Prop
  | [], [] => True
  | a :: as, xs :: xss => G a = none ∧ (∃ vs, H a = some (.lst vs) ∧ DdAll K G vs xs) ∧ Rows K G H as xss
  | _, _ => False
theorem Rows.len {K : PySem.W.Frag} {G H : Hp} : ∀ {as : List Addr} {xss : List (List PyData)}, Rows K G H as xss → as.length = xss.length
  | [], [], _ => rfl
  | _ :: _, _ :: _, h => by rw [List.length_cons, List.length_cons, Rows.len h.2.2]
  | [], _ :: _, h => h.elim
  | _ :: _, [], h => h.elim
theorem Rows.mono {K : PySem.W.Frag} {G H G' H' : Hp} (e : Ex G G') : ∀ {as : List Addr} {xss : List (List PyData)}, (∀ a ∈ as, ∀ o, H a = some o → NT o → H' a = some o ∧ (G a = none → G' a = none)) → Rows K G H as xss → Rows K G' H' as xss
  | [], [], _, _ => trivial
  | a :: as, xs :: xss, k, ⟨n, ⟨vs, h1, h2⟩, h3⟩ =>
    have q := k a (List.mem_cons_self) _ h1 .lst
    ⟨q.2 n, ⟨vs, q.1, dpAll_mono e xs h2⟩, Rows.mono e (fun b hb => k b (List.mem_cons_of_mem _ hb)) h3⟩
  | [], _ :: _, _, h => h.elim
  | _ :: _, [], _, h => h.elim

/-- v is what the slot says; fp: the addresses that it owns -/
def SlOk (K : PySem.W.Frag) (G H : Hp) (v : V) : Sl → List Addr → Prop
  | .x, fp => fp = []
  | .d d, fp => fp = [] ∧ Dd K G v d
  | .l xs, fp => ∃ a vs, fp = [a] ∧ v = .ref a ∧ G a = none ∧ H a = some (.lst vs) ∧ DdAll K G vs xs
  | .ll xss, fp => ∃ a as, fp = a :: as ∧ v = .ref a ∧ G a = none ∧ H a = some (.lst (as.map V.ref)) ∧ (a :: as).Nodup ∧ Rows K G H as xss
  | .dk o kvs, fp => ∃ a ps, fp = [a] ∧ (v = .ref a ∧ ∀ b, o = some b → b = a) ∧ G a = none ∧ H a = some (.dK ps) ∧ KD K G ps kvs
  | .dt kvs, fp => ∃ a ps, fp = [a] ∧ v = .ref a ∧ G a = none ∧ H a = some (.dT ps) ∧ KD K G ps kvs

theorem SlOk.mono {K : PySem.W.Frag} {G H G' H' : Hp} {v : V} (e : Ex G G') : ∀ {s : Sl} {fp : List Addr}, (∀ a ∈ fp, ∀ o, H a = some o → NT o → H' a = some o ∧ (G a = none → G' a = none)) → SlOk K G H v s fp → SlOk K G' H' v s fp
  | .x, _, _, h => h
  | .d d, _, _, h => ⟨h.1, dp_mono e d h.2⟩
  | .l xs, _, k, ⟨a, vs, e1, e2, n, h, r⟩ => by
    subst e1
    have q := k a (by simp) _ h .lst
    exact ⟨a, vs, rfl, e2, q.2 n, q.1, dpAll_mono e xs r⟩
  | .ll xss, _, k, ⟨a, as, e1, e2, n, h, nd, r⟩ => by
    subst e1
    have q := k a (by simp) _ h .lst
    exact ⟨a, as, rfl, e2, q.2 n, q.1, nd, r.mono e fun b hb => k b (List.mem_cons_of_mem _ hb)⟩
  | .dk _ kvs, _, k, ⟨a, ps, e1, e2, n, h, r⟩ => by
    subst e1
    have q := k a (by simp) _ h .dK
    exact ⟨a, ps, rfl, e2, q.2 n, q.1, r.mono e⟩
  | .dt kvs, _, k, ⟨a, ps, e1, e2, n, h, r⟩ => by
    subst e1
    have q := k a (by simp) _ h .dT
    exact ⟨a, ps, rfl, e2, q.2 n, q.1, r.mono e⟩
theorem Rows.free {K : PySem.W.Frag} {G H : Hp} : ∀ {as : List Addr} {xss : List (List PyData)}, Rows K G H as xss → ∀ a ∈ as, G a = none ∧ ∃ o, H a = some o ∧ NT o
  | [], _, _, a, ha => by cases ha
  | c :: as, [], r, _, _ => r.elim
  | c :: as, xs :: xss, r, a, ha => by
    rcases List.mem_cons.mp ha with z | z
    · subst z; obtain ⟨n, ⟨vs, h, _⟩, _⟩ := r; exact ⟨n, _, h, .lst⟩
    · exact Rows.free r.2.2 a z
theorem SlOk.free {K : PySem.W.Frag} {G H : Hp} {v : V} : ∀ {s : Sl} {fp : List Addr}, SlOk K G H v s fp → ∀ a ∈ fp, G a = none ∧ ∃ o, H a = some o ∧ NT o
  | .x, _, h, a, ha => by rw [show _ = [] from h] at ha; cases ha
  | .d _, _, h, a, ha => by rw [h.1] at ha; cases ha
  | .l _, _, ⟨b, vs, e1, _, n, h, _⟩, a, ha => by
    subst e1
    have : a = b := by simpa using ha
    subst this
    exact ⟨n, _, h, by first | exact .lst | exact .dK | exact .dT⟩
  | .ll _, _, ⟨b, as, e1, _, n, h, _, r⟩, a, ha => by
    subst e1
    rcases List.mem_cons.mp ha with q | q
    · subst q; exact ⟨n, _, h, .lst⟩
    · exact r.free a q
  | .dk _ _, _, ⟨b, vs, e1, _, n, h, _⟩, a, ha => by
    subst e1
    have : a = b := by simpa using ha
    subst this
    exact ⟨n, _, h, by first | exact .lst | exact .dK | exact .dT⟩
  | .dt _, _, ⟨b, vs, e1, _, n, h, _⟩, a, ha => by
    subst e1
    have : a = b := by simpa using ha
    subst this
    exact ⟨n, _, h, by first | exact .lst | exact .dK | exact .dT⟩

/-- what slot i says -/
def SlotIs (K : PySem.W.Frag) (G H : Hp) (σ : L2.St) (sls : List Sl) (i : Nat) (fp : List Addr) : Prop :=
  match sls[i]? with
  | none => fp = []
  | some .x => fp = []
  | some s => ∃ v, σ[i]? = some (some v) ∧ SlOk K G H v s fp
theorem SlotIs.free {K : PySem.W.Frag} {G H : Hp} {σ : L2.St} {sls : List Sl} {i : Nat} {fp : List Addr} (h : SlotIs K G H σ sls i fp) : ∀ a ∈ fp, G a = none ∧ ∃ o, H a = some o ∧ NT o := fun a ha => by
  unfold SlotIs at h
  split at h
  · rw [h] at ha; cases ha
  · rw [h] at ha; cases ha
  · obtain ⟨v, _, ok⟩ := h
    exact ok.free a ha
theorem SlotIs.mono {K : PySem.W.Frag} {G H G' H' : Hp} {σ : L2.St} {sls : List Sl} {i : Nat} {fp : List Addr} (e : Ex G G') (k : ∀ a ∈ fp, ∀ o, H a = some o → NT o → H' a = some o ∧ (G a = none → G' a = none)) (h : SlotIs K G H σ sls i fp) : SlotIs K G' H' σ sls i fp := by
  unfold SlotIs at h ⊢
  split at h
  · exact h
  · exact h
  · obtain ⟨v, q, ok⟩ := h
    exact ⟨v, q, ok.mono e k⟩
theorem SlotIs.of {K : PySem.W.Frag} {G H : Hp} {σ : L2.St} {sls : List Sl} {i : Nat} {fp : List Addr} {s : Sl} {v : V} (hs : sls[i]? = some s) (hv : σ[i]? = some (some v)) (ok : SlOk K G H v s fp) : SlotIs K G H σ sls i fp := by
  unfold SlotIs
  rw [hs]
  cases s with
  | x => exact ok
  | _ => exact ⟨v, hv, ok⟩
theorem SlotIs.to {K : PySem.W.Frag} {G H : Hp} {σ : L2.St} {sls : List Sl} {i : Nat} {fp : List Addr} {s : Sl} (h : SlotIs K G H σ sls i fp) (hs : sls[i]? = some s) (hx : s ≠ .x) : ∃ v, σ[i]? = some (some v) ∧ SlOk K G H v s fp := by
  unfold SlotIs at h
  rw [hs] at h
  cases s with
  | x => exact absurd rfl hx
  | _ => exact h
theorem SlotIs.at {K : PySem.W.Frag} {G H : Hp} {σ σ' : L2.St} {sls sls' : List Sl} {i : Nat} {fp : List Addr} (h : SlotIs K G H σ sls i fp) (hs : sls'[i]? = sls[i]?) (hv : σ'[i]? = σ[i]?) : SlotIs K G H σ' sls' i fp := by
  unfold SlotIs at h ⊢
  rw [hs, hv]
  exact h

/-- the slots σ are as told, over the frozen part G of the heap H; G₀, H₀: the entry's -/
structure En (K : PySem.W.Frag) (G₀ H₀ G H : Hp) (σ : L2.St) (sls : List Sl) : Prop where
  gw : Gw G₀ H₀ G H
  len : σ.length = sls.length
  own : ∃ fp : Nat → List Addr, (∀ i, SlotIs K G H σ sls i (fp i)) ∧ (∀ i j a, a ∈ fp i → a ∈ fp j → i = j) ∧ ∀ i a, a ∈ fp i → H₀ a = none

section
variable {K : PySem.W.Frag} {G₀ H₀ G H G' H' : Hp} {σ σ' : L2.St} {sls sls' : List Sl}
theorem En.s (E : En K G₀ H₀ G H σ sls) : Ex G H := E.gw.s
/-- all owned objects as they were -/
theorem En.grow (E : En K G₀ H₀ G H σ sls) (g : Gw G H G' H') : En K G₀ H₀ G' H' σ sls := by
  obtain ⟨fp, h1, h3, h4⟩ := E.own
  exact ⟨E.gw.trans g, E.len, fp, fun i => (h1 i).mono g.g fun a ha o ho nt => ⟨g.h a o ho, g.m a o ho nt⟩, h3, h4⟩
theorem En.get (E : En K G₀ H₀ G H σ sls) {i : Nat} {d : PyData} (h : sls[i]? = some (.d d)) : ∃ v, σ[i]? = some (some v) ∧ Dd K G v d := by
  obtain ⟨fp, h1, _⟩ := E.own
  obtain ⟨v, e, ok⟩ := (h1 i).to h (by simp)
  exact ⟨v, e, ok.2⟩
/-- one slot changes: what it owns is new, or was its own -/
theorem En.upd (E : En K G₀ H₀ G H σ sls) {i : Nat} {v : V} {s : Sl} (hi : i < sls.length) (hg : Ex G G') (gw : Gw G₀ H₀ G' H')
    (k : ∀ fi, SlotIs K G H σ sls i fi → (∀ a o, a ∉ fi → H a = some o → H' a = some o) ∧ (∀ a o, a ∉ fi → H a = some o → NT o → G a = none → G' a = none) ∧ ∃ fi', SlOk K G' H' v s fi' ∧ ∀ a ∈ fi', a ∈ fi ∨ H a = none) :
    En K G₀ H₀ G' H' (σ.set i (some v)) (sls.set i s) := by
  obtain ⟨fp, h1, h3, h4⟩ := E.own
  obtain ⟨k1, k2, fi', ok, k3⟩ := k (fp i) (h1 i)
  have old : ∀ j a, a ∈ fp j → ∃ o, H a = some o := fun j a ha => let ⟨o, h, _⟩ := ((h1 j).free a ha).2; ⟨o, h⟩
  refine ⟨gw, by rw [List.length_set, List.length_set, E.len], fun j => if j = i then fi' else fp j, fun j => ?_, fun a b c ha hb => ?_, fun j a ha => ?_⟩
  · by_cases q : j = i
    · subst q
      show SlotIs K G' H' (σ.set j (some v)) (sls.set j s) j (if j = j then fi' else fp j)
      rw [if_pos rfl]
      exact .of (List.getElem?_set_self hi) (List.getElem?_set_self (by rw [E.len]; exact hi)) ok
    · show SlotIs K G' H' (σ.set i (some v)) (sls.set i s) j (if j = i then fi' else fp j)
      rw [if_neg q]
      refine SlotIs.at ((h1 j).mono hg fun a ha o ho nt => ?_) (List.getElem?_set_ne (Ne.symm q)) (List.getElem?_set_ne (Ne.symm q))
      have na : a ∉ fp i := fun z => q (h3 j i a ha z)
      exact ⟨k1 a o na ho, k2 a o na ho nt⟩
  · by_cases qa : a = i
    · by_cases qb : b = i
      · rw [qa, qb]
      · have ha' : c ∈ fi' := by simpa [qa] using ha
        have hb' : c ∈ fp b := by simpa [qb] using hb
        rcases k3 c ha' with z | z
        · exact absurd (h3 i b c z hb') (fun e => qb e.symm)
        · obtain ⟨o, ho⟩ := old b c hb'
          rw [z] at ho; cases ho
    · by_cases qb : b = i
      · have hb' : c ∈ fi' := by simpa [qb] using hb
        have ha' : c ∈ fp a := by simpa [qa] using ha
        rcases k3 c hb' with z | z
        · exact absurd (h3 i a c z ha') (fun e => qa e.symm)
        · obtain ⟨o, ho⟩ := old a c ha'
          rw [z] at ho; cases ho
      · exact h3 a b c (by simpa [qa] using ha) (by simpa [qb] using hb)
  · by_cases q : j = i
    · have ha' : a ∈ fi' := by simpa [q] using ha
      rcases k3 a ha' with z | z
      · exact h4 i a z
      · exact E.gw.h.back z
    · exact h4 j a (by simpa [q] using ha)
theorem En.setD (E : En K G₀ H₀ G H σ sls) {i : Nat} {v : V} {d : PyData} (hi : i < sls.length) (h : Dd K G v d) : En K G₀ H₀ G H (σ.set i (some v)) (sls.set i (.d d)) :=
  E.upd hi (Ex.refl G) E.gw fun fi _ => ⟨fun _ _ _ h => h, fun _ _ _ _ _ h => h, [], ⟨rfl, h⟩, fun a ha => by cases ha⟩
/-- a new list of one's own -/
theorem En.setL (E : En K G₀ H₀ G H σ sls) {i : Nat} {a : Addr} {vs : List V} {xs : List PyData} (hi : i < sls.length) (ha : H a = none) (h : DdAll K G vs xs) : En K G₀ H₀ G (L2.upd H a (.lst vs)) (σ.set i (some (.ref a))) (sls.set i (.l xs)) := by
  have gn : G a = none := E.s.back ha
  refine E.upd hi (Ex.refl G) ⟨E.gw.g, E.gw.h.trans (Ex.new ha), E.s.put gn, E.gw.m⟩ fun fi _ => ⟨fun b o _ hb => by rw [upd_ne (ne_of_none hb ha)]; exact hb, fun _ _ _ _ _ h => h, [a], ⟨a, vs, rfl, rfl, gn, upd_same, h⟩, fun b hb => .inr (by rw [List.mem_singleton.mp hb]; exact ha)⟩
theorem En.getL (E : En K G₀ H₀ G H σ sls) {i : Nat} {xs : List PyData} (h : sls[i]? = some (.l xs)) : ∃ a vs, σ[i]? = some (some (.ref a)) ∧ G a = none ∧ H₀ a = none ∧ H a = some (.lst vs) ∧ DdAll K G vs xs := by
  obtain ⟨fp, h1, _, h4⟩ := E.own
  obtain ⟨v, e, ok⟩ := (h1 i).to h (by simp)
  obtain ⟨a, vs, e1, e2, n, ho, r⟩ := ok
  subst e2
  exact ⟨a, vs, e, n, h4 i a (by rw [e1]; simp), ho, r⟩
/-- the list in slot i is changed -/
theorem En.putL (E : En K G₀ H₀ G H σ sls) {i : Nat} {xs ys : List PyData} {a : Addr} {ws : List V} (h : sls[i]? = some (.l xs)) (hv : σ[i]? = some (some (.ref a))) (hy : DdAll K G ws ys) : En K G₀ H₀ G (L2.upd H a (.lst ws)) σ (sls.set i (.l ys)) := by
  have hi : i < sls.length := (List.getElem?_eq_some_iff.mp h).1
  obtain ⟨a', vs, e, gn, h0, ha, r⟩ := E.getL h
  rw [hv] at e
  cases e
  have q := E.upd (v := .ref a) (s := .l ys) hi (Ex.refl G) (G' := G) (H' := L2.upd H a (.lst ws)) ⟨E.gw.g, E.gw.h.put h0, E.s.put gn, E.gw.m⟩ fun fi hf => by
    obtain ⟨v, e, a2, vs2, e1, e2, _⟩ := hf.to h (by simp)
    rw [hv] at e
    cases e
    cases e2
    subst e1
    exact ⟨fun b o nb hb => by rw [upd_ne (by simpa using nb)]; exact hb, fun _ _ _ _ _ h => h, [a], ⟨a, ws, rfl, rfl, gn, upd_same, hy⟩, fun b hb => .inl hb⟩
  have es : σ.set i (some (.ref a)) = σ := by
    apply List.ext_getElem?
    intro j
    by_cases z : i = j
    · subst z
      rw [List.getElem?_set_self (by rw [E.len]; exact hi), hv]
    · rw [List.getElem?_set_ne z]
  rw [es] at q
  exact q
/-- the list in slot i is one's own no longer: data from now on -/
theorem En.frzL (E : En K G₀ H₀ G H σ sls) {i : Nat} {xs : List PyData} (h : sls[i]? = some (.l xs)) : ∃ G', Ex G G' ∧ En K G₀ H₀ G' H σ (sls.set i (.d (.list xs))) := by
  have hi : i < sls.length := (List.getElem?_eq_some_iff.mp h).1
  obtain ⟨a, vs, hv, gn, h0, ha, r⟩ := E.getL h
  have eg : Ex G (L2.upd G a (.lst vs)) := Ex.new gn
  refine ⟨L2.upd G a (.lst vs), eg, ?_⟩
  have q := E.upd (v := .ref a) (s := .d (.list xs)) hi eg (G' := L2.upd G a (.lst vs)) (H' := H) ⟨E.gw.g.trans eg, E.gw.h, fun b o hb => by
      by_cases z : b = a
      · subst z; rw [upd_same] at hb; cases hb; exact ha
      · rw [upd_ne z] at hb; exact E.s b o hb, fun b o hb t n => by rw [upd_ne (ne_of_none hb h0)]; exact E.gw.m b o hb t n⟩ fun fi hf => by
    obtain ⟨v, e, a2, vs2, e1, e2, _⟩ := hf.to h (by simp)
    rw [hv] at e
    cases e
    cases e2
    subst e1
    exact ⟨fun _ _ _ h => h, fun b o nb hb _ n => by rw [upd_ne (by simpa using nb)]; exact n, [], ⟨rfl, .lst (SqL.of upd_same) (dpAll_mono eg xs r)⟩, fun b hb => by cases hb⟩
  have es : σ.set i (some (.ref a)) = σ := by
    apply List.ext_getElem?
    intro j
    by_cases z : i = j
    · subst z
      rw [List.getElem?_set_self (by rw [E.len]; exact hi), hv]
    · rw [List.getElem?_set_ne z]
  rw [es] at q
  exact q
/-- a new dict of one's own -/
theorem En.setK (E : En K G₀ H₀ G H σ sls) {i : Nat} {a : Addr} {ps : List (Key × V)} {kvs : List (Key × PyData)} (hi : i < sls.length) (ha : H a = none) (h : KD K G ps kvs) : En K G₀ H₀ G (L2.upd H a (.dK ps)) (σ.set i (some (.ref a))) (sls.set i (.dk none kvs)) := by
  have gn : G a = none := E.s.back ha
  refine E.upd hi (Ex.refl G) ⟨E.gw.g, E.gw.h.trans (Ex.new ha), E.s.put gn, E.gw.m⟩ fun fi _ => ⟨fun b o _ hb => by rw [upd_ne (ne_of_none hb ha)]; exact hb, fun _ _ _ _ _ h => h, [a], ⟨a, ps, rfl, ⟨rfl, fun b e => by cases e⟩, gn, upd_same, h⟩, fun b hb => .inr (by rw [List.mem_singleton.mp hb]; exact ha)⟩
theorem En.setT (E : En K G₀ H₀ G H σ sls) {i : Nat} {a : Addr} (hi : i < sls.length) (ha : H a = none) : En K G₀ H₀ G (L2.upd H a (.dT [])) (σ.set i (some (.ref a))) (sls.set i (.dt [])) := by
  have gn : G a = none := E.s.back ha
  refine E.upd hi (Ex.refl G) ⟨E.gw.g, E.gw.h.trans (Ex.new ha), E.s.put gn, E.gw.m⟩ fun fi _ => ⟨fun b o _ hb => by rw [upd_ne (ne_of_none hb ha)]; exact hb, fun _ _ _ _ _ h => h, [a], ⟨a, [], rfl, rfl, gn, upd_same, .nil⟩, fun b hb => .inr (by rw [List.mem_singleton.mp hb]; exact ha)⟩
theorem En.getK (E : En K G₀ H₀ G H σ sls) {i : Nat} {o : Option Addr} {kvs : List (Key × PyData)} (h : sls[i]? = some (.dk o kvs)) : ∃ a ps, σ[i]? = some (some (.ref a)) ∧ (∀ b, o = some b → b = a) ∧ G a = none ∧ H₀ a = none ∧ H a = some (.dK ps) ∧ KD K G ps kvs := by
  obtain ⟨fp, h1, _, h4⟩ := E.own
  obtain ⟨v, e, ok⟩ := (h1 i).to h (by simp)
  obtain ⟨a, ps, e1, ⟨e2, e3⟩, n, ho, r⟩ := ok
  subst e2
  exact ⟨a, ps, e, e3, n, h4 i a (by rw [e1]; simp), ho, r⟩
/-- the dict in slot i is changed; the rest of the heap may grow -/
theorem En.putK (E : En K G₀ H₀ G H σ sls) {i : Nat} {o : Option Addr} {kvs kvs' : List (Key × PyData)} {a : Addr} {ps' : List (Key × V)} (h : sls[i]? = some (.dk o kvs)) (hv : σ[i]? = some (some (.ref a))) (g : Ex G G') (s : Ex G' H') (k1 : ∀ b u, b ≠ a → H b = some u → H' b = some u) (k2 : ∀ b u, b ≠ a → H b = some u → NT u → G b = none → G' b = none)
    (n : G' a = none) (ha : H' a = some (.dK ps')) (hy : KD K G' ps' kvs') : En K G₀ H₀ G' H' σ (sls.set i (.dk o kvs')) := by
  have hi : i < sls.length := (List.getElem?_eq_some_iff.mp h).1
  obtain ⟨a', ps, e, eo, gn, h0, ha', r⟩ := E.getK h
  rw [hv] at e
  cases e
  have q := E.upd (v := .ref a) (s := .dk o kvs') hi g (G' := G') (H' := H') ⟨E.gw.g.trans g, fun b u hb => k1 b u (ne_of_none hb h0) (E.gw.h b u hb), s, fun b u hb t n => k2 b u (ne_of_none hb h0) (E.gw.h b u hb) t (E.gw.m b u hb t n)⟩ fun fi hf => by
    obtain ⟨v, e, a2, vs2, e1, ⟨e2, _⟩, _⟩ := hf.to h (by simp)
    rw [hv] at e
    cases e
    cases e2
    subst e1
    exact ⟨fun b u nb hb => k1 b u (by simpa using nb) hb, fun b u nb hb => k2 b u (by simpa using nb) hb, [a], ⟨a, ps', rfl, ⟨rfl, eo⟩, n, ha, hy⟩, fun b hb => .inl hb⟩
  have es : σ.set i (some (.ref a)) = σ := by
    apply List.ext_getElem?
    intro j
    by_cases z : i = j
    · subst z
      rw [List.getElem?_set_self (by rw [E.len]; exact hi), hv]
    · rw [List.getElem?_set_ne z]
  rw [es] at q
  exact q
theorem En.getT (E : En K G₀ H₀ G H σ sls) {i : Nat} {kvs : List (List Key × PyData)} (h : sls[i]? = some (.dt kvs)) : ∃ a ps, σ[i]? = some (some (.ref a)) ∧ G a = none ∧ H₀ a = none ∧ H a = some (.dT ps) ∧ KD K G ps kvs := by
  obtain ⟨fp, h1, _, h4⟩ := E.own
  obtain ⟨v, e, ok⟩ := (h1 i).to h (by simp)
  obtain ⟨a, ps, e1, e2, n, ho, r⟩ := ok
  subst e2
  exact ⟨a, ps, e, n, h4 i a (by rw [e1]; simp), ho, r⟩
theorem En.putT (E : En K G₀ H₀ G H σ sls) {i : Nat} {kvs kvs' : List (List Key × PyData)} {a : Addr} {ps' : List (List Key × V)} (h : sls[i]? = some (.dt kvs)) (hv : σ[i]? = some (some (.ref a))) (hy : KD K G ps' kvs') : En K G₀ H₀ G (L2.upd H a (.dT ps')) σ (sls.set i (.dt kvs')) := by
  have hi : i < sls.length := (List.getElem?_eq_some_iff.mp h).1
  obtain ⟨a', vs, e, gn, h0, ha, r⟩ := E.getT h
  rw [hv] at e
  cases e
  have q := E.upd (v := .ref a) (s := .dt kvs') hi (Ex.refl G) (G' := G) (H' := L2.upd H a (.dT ps')) ⟨E.gw.g, E.gw.h.put h0, E.s.put gn, E.gw.m⟩ fun fi hf => by
    obtain ⟨v, e, a2, vs2, e1, e2, _⟩ := hf.to h (by simp)
    rw [hv] at e
    cases e
    cases e2
    subst e1
    exact ⟨fun b o nb hb => by rw [upd_ne (by simpa using nb)]; exact hb, fun _ _ _ _ _ h => h, [a], ⟨a, ps', rfl, rfl, gn, upd_same, hy⟩, fun b hb => .inl hb⟩
  have es : σ.set i (some (.ref a)) = σ := by
    apply List.ext_getElem?
    intro j
    by_cases z : i = j
    · subst z
      rw [List.getElem?_set_self (by rw [E.len]; exact hi), hv]
    · rw [List.getElem?_set_ne z]
  rw [es] at q
  exact q
/-- an object beside, at D, that nobody here knows: it stays -/
theorem En.keep (E : En K G₀ H₀ G H σ sls) {D : Addr} {o : HO} (h : H D = none) : En K G₀ (L2.upd H₀ D o) G (L2.upd H D o) σ sls := by
  obtain ⟨fp, h1, h3, h4⟩ := E.own
  have gn : G D = none := E.s.back h
  have hd : ∀ i a, a ∈ fp i → a ≠ D := fun i a ha z => by
    obtain ⟨u, hu, _⟩ := ((h1 i).free a ha).2
    rw [z, h] at hu; cases hu
  refine ⟨⟨E.gw.g, E.gw.h.both, E.s.put gn, fun a u ha t n => ?_⟩, E.len, fp, fun i => (h1 i).mono (Ex.refl G) fun a ha o' ho _ => ⟨by rw [upd_ne (hd i a ha)]; exact ho, fun n => n⟩, h3, fun i a ha => by rw [upd_ne (hd i a ha)]; exact h4 i a ha⟩
  by_cases z : a = D
  · subst z; exact gn
  · rw [upd_ne z] at ha; exact E.gw.m a u ha t n
def del (H : Hp) (D : Addr) : Hp := fun a => if a = D then none else H a
theorem del_same {H : Hp} {D : Addr} : del H D D = none := if_pos rfl
theorem del_ne {H : Hp} {D a : Addr} (h : a ≠ D) : del H D a = H a := if_neg h
theorem upd_del {H : Hp} {D : Addr} {o : HO} (h : H D = some o) : L2.upd (del H D) D o = H := by
  funext a
  by_cases z : a = D
  · subst z; rw [upd_same, h]
  · rw [upd_ne z, del_ne z]
theorem En.unkeep {D : Addr} {o : HO} (E : En K G₀ (L2.upd H₀ D o) G H σ sls) (h0 : H₀ D = none) (g0 : G₀ D = none) (nt : NT o := by first | exact .lst | exact .dK | exact .dT) : ∃ H1, H1 D = none ∧ H = L2.upd H1 D o ∧ En K G₀ H₀ G H1 σ sls := by
  obtain ⟨fp, h1, h3, h4⟩ := E.own
  have hD : H D = some o := E.gw.h D o upd_same
  have gD : G D = none := E.gw.m D o upd_same nt g0
  have hd : ∀ i a, a ∈ fp i → a ≠ D := fun i a ha z => by
    have := h4 i a ha
    rw [z, upd_same] at this; cases this
  refine ⟨del H D, del_same, (upd_del hD).symm, ⟨E.gw.g, fun a u ha => ?_, fun a u ha => ?_, fun a u ha t n => ?_⟩, E.len, fp, fun i => (h1 i).mono (Ex.refl G) fun a ha o' ho _ => ⟨by rw [del_ne (hd i a ha)]; exact ho, fun n => n⟩, h3, fun i a ha => ?_⟩
  · rw [del_ne (ne_of_none ha h0)]; exact E.gw.h a u (by rw [upd_ne (ne_of_none ha h0)]; exact ha)
  · rw [del_ne (ne_of_none ha gD)]; exact E.s a u ha
  · exact E.gw.m a u (by rw [upd_ne (ne_of_none ha h0)]; exact ha) t n
  · have := h4 i a ha
    rw [upd_ne (hd i a ha)] at this; exact this
/-- forgetting a slot -/
theorem En.forget (E : En K G₀ H₀ G H σ sls) (hl : σ'.length = sls'.length) (h : ∀ i : Nat, sls'[i]? = some Sl.x ∨ sls'[i]? = none ∨ (sls'[i]? = sls[i]? ∧ σ'[i]? = σ[i]?)) : En K G₀ H₀ G H σ' sls' := by
  obtain ⟨fp, h1, h3, h4⟩ := E.own
  classical
  refine ⟨E.gw, hl, fun i => if sls'[i]? = some .x ∨ sls'[i]? = none then [] else fp i, fun i => ?_, fun i j a hi hj => ?_, fun i a hi => ?_⟩
  · by_cases q : sls'[i]? = some .x ∨ sls'[i]? = none
    · show SlotIs K G H σ' sls' i (if sls'[i]? = some .x ∨ sls'[i]? = none then [] else fp i)
      rw [if_pos q]
      unfold SlotIs
      rcases q with q | q <;> rw [q]
    · show SlotIs K G H σ' sls' i (if sls'[i]? = some .x ∨ sls'[i]? = none then [] else fp i)
      rw [if_neg q]
      rcases h i with z | z | z
      · exact absurd (.inl z) q
      · exact absurd (.inr z) q
      · exact (h1 i).at z.1 z.2
  · by_cases qi : sls'[i]? = some .x ∨ sls'[i]? = none
    · simp only [if_pos qi] at hi; cases hi
    · by_cases qj : sls'[j]? = some .x ∨ sls'[j]? = none
      · simp only [if_pos qj] at hj; cases hj
      · simp only [if_neg qi] at hi; simp only [if_neg qj] at hj
        exact h3 i j a hi hj
  · by_cases qi : sls'[i]? = some .x ∨ sls'[i]? = none
    · simp only [if_pos qi] at hi; cases hi
    · simp only [if_neg qi] at hi
      exact h4 i a hi
end
end Ewl
-- DL2
set_option Elab.async false
set_option linter.all false
set_option maxRecDepth 100000
set_option maxHeartbeats 2000000
/-! Judgements over data. -/
namespace Ewl
open PySem L2

/-! ### what must hold, over all states that bear the slots and the heap -/
def W (X : Cx) (e : Expr) : TE := fun σ H Q => ∀ pins s, L2.Inv X pins σ H s → wpAny (model X.prog X.w) X.A (eval e X.env) (EP X pins σ Q) X.xe s
def WT (X : Cx) (e : Expr) : TT := fun σ H Q => ∀ pins s, L2.Inv X pins σ H s → wpAny (model X.prog X.w) X.A (isTrue e X.env (eval e X.env)) (TP X pins σ Q) X.xe s
def WA (X : Cx) (es : List Expr) : TA := fun σ H Q => ∀ pos pins s, L2.Inv X pins σ H s → wpAny (model X.prog X.w) X.A (spliced (backTo pos (starEach es X.env))) (AP X pins σ Q) X.xe s
def WS (X : Cx) (st : Stmt) : TS := fun D σ H => ∀ pins s, L2.Inv X pins σ H s → wpAny (model X.prog X.w) X.A (exec st X.env) (SP X pins D) X.xe s
def WB (X : Cx) (st : List Stmt) : TS := fun D σ H => ∀ pins s, L2.Inv X pins σ H s → wpAny (model X.prog X.w) X.A (execs st X.env) (SP X pins D) X.xe s
section
variable {X : Cx} {e : Expr} {es : List Expr} {st : Stmt} {ss : List Stmt}
theorem pe_W : PE X e (W X e) := ⟨fun pins s σ H Q I h => h pins s I⟩
theorem pt_W : PT X e (WT X e) := ⟨fun pins s σ H Q I h => h pins s I⟩
theorem pa_W : PA X es (WA X es) := ⟨fun pos pins s σ H Q I h => h pos pins s I⟩
theorem ps_W : PS X st (WS X st) := ⟨fun pins s σ H D I h => h pins s I⟩
theorem pss_W : PSs X ss (WB X ss) := ⟨fun pins s σ H D I h => h pins s I⟩
theorem W.of {t : TE} {σ : L2.St} {H : Hp} {Q : VK} (h : PE X e t) (q : t σ H Q) : W X e σ H Q := fun pins s I => h.run pins s σ H Q I q
theorem WT.of {t : TT} {σ : L2.St} {H : Hp} {Q : Bool → Hp → Prop} (h : PT X e t) (q : t σ H Q) : WT X e σ H Q := fun pins s I => h.run pins s σ H Q I q
theorem WA.of {t : TA} {σ : L2.St} {H : Hp} {Q : List V → Hp → Prop} (h : PA X es t) (q : t σ H Q) : WA X es σ H Q := fun pos pins s I => h.run pos pins s σ H Q I q
theorem WS.of {t : TS} {σ : L2.St} {H : Hp} {D : Ends} (h : PS X st t) (q : t D σ H) : WS X st D σ H := fun pins s I => h.run pins s σ H D I q
theorem WB.of {t : TS} {σ : L2.St} {H : Hp} {D : Ends} (h : PSs X ss t) (q : t D σ H) : WB X ss D σ H := fun pins s I => h.run pins s σ H D I q
end

/-! ### an expression gives data; a new list of one's own; a test; arguments -/
structure Ev (X : Cx) (e : Expr) (sl sl' : List Sl) (d : PyData) : Prop where
  run : ∀ {G₀ H₀ G H : Hp} {σ : L2.St}, En X.K G₀ H₀ G H σ sl → ∀ Q : VK, (∀ v G' H', En X.K G₀ H₀ G' H' σ sl' → Ex G G' → Dd X.K G' v d → Q v H') → W X e σ H Q
instance {X : Cx} {e : Expr} {sl sl' : List Sl} {d : PyData} : CoeFun (Ev X e sl sl' d) (fun _ => ∀ {G₀ H₀ G H : Hp} {σ : L2.St}, En X.K G₀ H₀ G H σ sl → ∀ Q : VK, (∀ v G' H', En X.K G₀ H₀ G' H' σ sl' → Ex G G' → Dd X.K G' v d → Q v H') → W X e σ H Q) := ⟨fun h => h.run⟩
structure EvL (X : Cx) (e : Expr) (sl sl' : List Sl) (xs : List PyData) : Prop where
  run : ∀ {G₀ H₀ G H : Hp} {σ : L2.St}, En X.K G₀ H₀ G H σ sl → ∀ Q : VK, (∀ a vs G' H', En X.K G₀ H₀ G' H' σ sl' → Ex G G' → H' a = none → DdAll X.K G' vs xs → Q (.ref a) (L2.upd H' a (.lst vs))) → W X e σ H Q
instance {X : Cx} {e : Expr} {sl sl' : List Sl} {xs : List PyData} : CoeFun (EvL X e sl sl' xs) (fun _ => ∀ {G₀ H₀ G H : Hp} {σ : L2.St}, En X.K G₀ H₀ G H σ sl → ∀ Q : VK, (∀ a vs G' H', En X.K G₀ H₀ G' H' σ sl' → Ex G G' → H' a = none → DdAll X.K G' vs xs → Q (.ref a) (L2.upd H' a (.lst vs))) → W X e σ H Q) := ⟨fun h => h.run⟩
structure EvT (X : Cx) (e : Expr) (sl sl' : List Sl) (b : Bool) : Prop where
  run : ∀ {G₀ H₀ G H : Hp} {σ : L2.St}, En X.K G₀ H₀ G H σ sl → ∀ Q : Bool → Hp → Prop, (∀ G' H', En X.K G₀ H₀ G' H' σ sl' → Ex G G' → Q b H') → WT X e σ H Q
instance {X : Cx} {e : Expr} {sl sl' : List Sl} {b : Bool} : CoeFun (EvT X e sl sl' b) (fun _ => ∀ {G₀ H₀ G H : Hp} {σ : L2.St}, En X.K G₀ H₀ G H σ sl → ∀ Q : Bool → Hp → Prop, (∀ G' H', En X.K G₀ H₀ G' H' σ sl' → Ex G G' → Q b H') → WT X e σ H Q) := ⟨fun h => h.run⟩
structure EvA (X : Cx) (es : List Expr) (sl sl' : List Sl) (ds : List PyData) : Prop where
  run : ∀ {G₀ H₀ G H : Hp} {σ : L2.St}, En X.K G₀ H₀ G H σ sl → ∀ Q : List V → Hp → Prop, (∀ vs G' H', En X.K G₀ H₀ G' H' σ sl' → Ex G G' → DdAll X.K G' vs ds → Q vs H') → WA X es σ H Q
instance {X : Cx} {es : List Expr} {sl sl' : List Sl} {ds : List PyData} : CoeFun (EvA X es sl sl' ds) (fun _ => ∀ {G₀ H₀ G H : Hp} {σ : L2.St}, En X.K G₀ H₀ G H σ sl → ∀ Q : List V → Hp → Prop, (∀ vs G' H', En X.K G₀ H₀ G' H' σ sl' → Ex G G' → DdAll X.K G' vs ds → Q vs H') → WA X es σ H Q) := ⟨fun h => h.run⟩

/-- an operation on two data, one, several: the heap grows -/
structure RD (K : PySem.W.Frag) (r : R2) (d e z : PyData) : Prop where
  run : ∀ {G H : Hp} {v w : V}, Ex G H → Dd K G v d → Dd K G w e → ∀ Q : VK, (∀ u G' H', Gw G H G' H' → Dd K G' u z → Q u H') → r v w H Q
instance {K : PySem.W.Frag} {r : R2} {d e z : PyData} : CoeFun (RD K r d e z) (fun _ => ∀ {G H : Hp} {v w : V}, Ex G H → Dd K G v d → Dd K G w e → ∀ Q : VK, (∀ u G' H', Gw G H G' H' → Dd K G' u z → Q u H') → r v w H Q) := ⟨fun h => h.run⟩
structure RL (K : PySem.W.Frag) (r : R2) (d e : PyData) (xs : List PyData) : Prop where
  run : ∀ {G H : Hp} {v w : V}, Ex G H → Dd K G v d → Dd K G w e → ∀ Q : VK, (∀ a vs, H a = none → DdAll K G vs xs → Q (.ref a) (L2.upd H a (.lst vs))) → r v w H Q
instance {K : PySem.W.Frag} {r : R2} {d e : PyData} {xs : List PyData} : CoeFun (RL K r d e xs) (fun _ => ∀ {G H : Hp} {v w : V}, Ex G H → Dd K G v d → Dd K G w e → ∀ Q : VK, (∀ a vs, H a = none → DdAll K G vs xs → Q (.ref a) (L2.upd H a (.lst vs))) → r v w H Q) := ⟨fun h => h.run⟩
structure RU (K : PySem.W.Frag) (r : V → Hp → VK → Prop) (d z : PyData) : Prop where
  run : ∀ {G H : Hp} {v : V}, Ex G H → Dd K G v d → ∀ Q : VK, (∀ u G' H', Gw G H G' H' → Dd K G' u z → Q u H') → r v H Q
instance {K : PySem.W.Frag} {r : V → Hp → VK → Prop} {d z : PyData} : CoeFun (RU K r d z) (fun _ => ∀ {G H : Hp} {v : V}, Ex G H → Dd K G v d → ∀ Q : VK, (∀ u G' H', Gw G H G' H' → Dd K G' u z → Q u H') → r v H Q) := ⟨fun h => h.run⟩
structure RC (K : PySem.W.Frag) (r : List V → Hp → VK → Prop) (ds : List PyData) (z : PyData) : Prop where
  run : ∀ {G H : Hp} {vs : List V}, Ex G H → DdAll K G vs ds → ∀ Q : VK, (∀ u G' H', Gw G H G' H' → Dd K G' u z → Q u H') → r vs H Q
instance {K : PySem.W.Frag} {r : List V → Hp → VK → Prop} {ds : List PyData} {z : PyData} : CoeFun (RC K r ds z) (fun _ => ∀ {G H : Hp} {vs : List V}, Ex G H → DdAll K G vs ds → ∀ Q : VK, (∀ u G' H', Gw G H G' H' → Dd K G' u z → Q u H') → r vs H Q) := ⟨fun h => h.run⟩
structure RCL (K : PySem.W.Frag) (r : List V → Hp → VK → Prop) (ds : List PyData) (xs : List PyData) : Prop where
  run : ∀ {G H : Hp} {vs : List V}, Ex G H → DdAll K G vs ds → ∀ Q : VK, (∀ a ws, H a = none → DdAll K G ws xs → Q (.ref a) (L2.upd H a (.lst ws))) → r vs H Q
instance {K : PySem.W.Frag} {r : List V → Hp → VK → Prop} {ds : List PyData} {xs : List PyData} : CoeFun (RCL K r ds xs) (fun _ => ∀ {G H : Hp} {vs : List V}, Ex G H → DdAll K G vs ds → ∀ Q : VK, (∀ a ws, H a = none → DdAll K G ws xs → Q (.ref a) (L2.upd H a (.lst ws))) → r vs H Q) := ⟨fun h => h.run⟩

section
variable {X : Cx} {e a b : Expr} {es : List Expr} {s0 s1 s2 s3 : List Sl} {d d1 d2 z : PyData} {pos : Pos}

theorem EvL.ev {xs : List PyData} (h : EvL X e s0 s1 xs) : Ev X e s0 s1 (.list xs) := .mk fun E Q q =>
  h E Q fun a vs G' H' E' g ha hv => q (.ref a) (L2.upd G' a (.lst vs)) _ (E'.grow (.new E'.s ha)) (g.trans (Ex.new (E'.s.back ha)))
    (.lst (SqL.of upd_same) (dpAll_mono (Ex.new (E'.s.back ha)) xs hv))
theorem Ev.to (h : Ev X e s0 s1 d) (q : d = d1) : Ev X e s0 s1 d1 := q ▸ h
theorem EvT.to {b c : Bool} (h : EvT X e s0 s1 b) (q : b = c) : EvT X e s0 s1 c := q ▸ h
theorem EvL.to {xs ys : List PyData} (h : EvL X e s0 s1 xs) (q : xs = ys) : EvL X e s0 s1 ys := q ▸ h

theorem ev_var {i : Nat} {x : Str} (h : s0[i]? = some (.d d)) (hN : X.N[i]? = some x) (hv : Vis X.env.scope x := by first | exact Or.inl rfl | exact Or.inr (Or.inl rfl) | exact Or.inr (Or.inr rfl))
    (hd : (x == ("__debug__" : Str)) = false := by decide) (hcd : (x == ("__classdict__" : Str)) = false := by decide) : Ev X (.Name x pos) s0 s0 d := .mk fun {G₀ H₀ G H σ} E Q q => by
  obtain ⟨v, e, r⟩ := E.get h
  exact W.of (pe_var hN hv hd hcd) ⟨v, e, q v G H E (Ex.refl G) r⟩
theorem ev_int {i : Int} {j : Nat} : Ev X (.Constant (.int i) j pos) s0 s0 (.int i) := .mk fun {G₀ H₀ G H σ} E Q q => W.of pe_int (q _ G H E (Ex.refl G) (.int i))
theorem ev_bl {i : Bool} {j : Nat} : Ev X (.Constant (.bool i) j pos) s0 s0 (.bool i) := .mk fun {G₀ H₀ G H σ} E Q q => W.of pe_bl (q _ G H E (Ex.refl G) (.bl i))
theorem ev_non {j : Nat} : Ev X (.Constant .none j pos) s0 s0 .none := .mk fun {G₀ H₀ G H σ} E Q q => W.of pe_non (q _ G H E (Ex.refl G) .non)
theorem ev_str {i : Str} {j : Nat} : Ev X (.Constant (.str i) j pos) s0 s0 (.str i) := .mk fun {G₀ H₀ G H σ} E Q q => W.of pe_str (q _ G H E (Ex.refl G) (.str i))
/-- a module's number -/
theorem ev_gint {x : Str} {i : Int} {t : Tok} (hm : X.mg x = some (.int i t)) (hg : Gl X x := by rfl) (hd : (x == ("__debug__" : Str)) = false := by decide) : Ev X (.Name x pos) s0 s0 (.int i) := .mk fun {G₀ H₀ G H σ} E Q q =>
  W.of (pe_glob hg hm (v := .int i) ⟨t, rfl⟩ hd) (q _ G H E (Ex.refl G) (.int i))

theorem ev_bin {op : Operator} {r : R2} (ho : OpR X (binaryOp op) r) (ha : Ev X a s0 s1 d1) (hb : Ev X b s1 s2 d2) (hr : RD X.K r d1 d2 z) : Ev X (.BinOp a op b pos) s0 s2 z := .mk fun E Q q =>
  W.of (pe_op ho pe_W pe_W) (ha E _ fun v G1 H1 E1 g1 r1 => hb E1 _ fun w G2 H2 E2 g2 r2 => hr E2.s (dp_mono g2 d1 r1) r2 Q fun u G3 H3 g3 r3 => q u G3 H3 (E2.grow g3) ((g1.trans g2).trans g3.g) r3)
theorem ev_binL {op : Operator} {r : R2} {xs : List PyData} (ho : OpR X (binaryOp op) r) (ha : Ev X a s0 s1 d1) (hb : Ev X b s1 s2 d2) (hr : RL X.K r d1 d2 xs) : EvL X (.BinOp a op b pos) s0 s2 xs := .mk fun E Q q =>
  W.of (pe_op ho pe_W pe_W) (ha E _ fun v G1 H1 E1 g1 r1 => hb E1 _ fun w G2 H2 E2 g2 r2 => hr E2.s (dp_mono g2 d1 r1) r2 Q fun a vs h3 r3 => q a vs G2 H2 E2 (g1.trans g2) h3 r3)
theorem ev_un {op : UnaryOp} {r : V → Hp → VK → Prop} (ho : UnR X (unaryOp op) r) (ha : Ev X a s0 s1 d1) (hr : RU X.K r d1 z) : Ev X (.UnaryOp op a pos) s0 s1 z := .mk fun E Q q =>
  W.of (pe_un ho pe_W) (ha E _ fun v G1 H1 E1 g1 r1 => hr E1.s r1 Q fun u G3 H3 g3 r3 => q u G3 H3 (E1.grow g3) (g1.trans g3.g) r3)
theorem ev_cmp {op : CmpOp} {r : R2} (ho : OpR X (compareOp op) r) (ha : Ev X a s0 s1 d1) (hb : Ev X b s1 s2 d2) (hr : RD X.K r d1 d2 z) (hm : behindInMarks op b = false := by first | exact nomark _ | rfl) : Ev X (.Compare a [op] [b] pos) s0 s2 z := .mk fun E Q q =>
  W.of (pe_cmpR ho pe_W pe_W hm) (ha E _ fun v G1 H1 E1 g1 r1 => hb E1 _ fun w G2 H2 E2 g2 r2 => hr E2.s (dp_mono g2 d1 r1) r2 Q fun u G3 H3 g3 r3 => q u G3 H3 (E2.grow g3) ((g1.trans g2).trans g3.g) r3)
theorem dp_bl {K : PySem.W.Frag} {G : Hp} {v : V} {b : Bool} (h : Dd K G v (.bool b)) : v = .bl b := by cases h; rfl
theorem dp_int {K : PySem.W.Frag} {G : Hp} {v : V} {i : Int} (h : Dd K G v (.int i)) : v = .int i := by cases h; rfl
theorem dp_str {K : PySem.W.Frag} {G : Hp} {v : V} {i : Str} (h : Dd K G v (.str i)) : v = .str i := by cases h; rfl
theorem dp_non {K : PySem.W.Frag} {G : Hp} {v : V} (h : Dd K G v .none) : v = .non := by cases h; rfl
theorem et_cmp {op : CmpOp} {r : R2} {c : Bool} (ho : OpR X (compareOp op) r) (ha : Ev X a s0 s1 d1) (hb : Ev X b s1 s2 d2) (hr : RD X.K r d1 d2 (.bool c)) (hm : behindInMarks op b = false := by first | exact nomark _ | rfl) : EvT X (.Compare a [op] [b] pos) s0 s2 c := .mk fun E Q q =>
  WT.of (pt_cmpR ho pe_W pe_W hm) (ha E _ fun v G1 H1 E1 g1 r1 => hb E1 _ fun w G2 H2 E2 g2 r2 => hr E2.s (dp_mono g2 d1 r1) r2 _ fun u G3 H3 g3 r3 => ⟨c, dp_bl r3, q G3 H3 (E2.grow g3) ((g1.trans g2).trans g3.g)⟩)
/-- a < b < c, the third part told where it is asked -/
theorem ev_chain {op op' : CmpOp} {r r' : R2} {c : Expr} {d3 : PyData} {k1 k2 : Bool} (ho : OpR X (compareOp op) r) (ho' : OpR X (compareOp op') r') (ha : Ev X a s0 s1 d1) (hb : Ev X b s1 s2 d2) (h1 : RD X.K r d1 d2 (.bool k1)) (hc : k1 = true → Ev X c s2 s2 d3) (h2 : k1 = true → RD X.K r' d2 d3 (.bool k2))
    (hm : lastMarks [op, op'] [b, c] = false := by with_unfolding_all rfl) : Ev X (.Compare a [op, op'] [b, c] pos) s0 s2 (.bool (k1 && k2)) := .mk fun E Q q =>
  W.of (pe_chain ho ho' pe_W pe_W pe_W hm) (ha E _ fun v G1 H1 E1 g1 r1 => hb E1 _ fun w G2 H2 E2 g2 r2 => h1 E2.s (dp_mono g2 d1 r1) r2 _ fun u G3 H3 g3 r3 => ⟨k1, dp_bl r3, by
    cases k1 with
    | true =>
      show W X c _ H3 _
      exact hc rfl (E2.grow g3) _ fun v' G4 H4 E4 g4 r4 => h2 rfl E4.s (dp_mono (g3.g.trans g4) d2 r2) r4 Q fun u5 G5 H5 g5 r5 => q u5 G5 H5 (E4.grow g5) ((((g1.trans g2).trans g3.g).trans g4).trans g5.g) r5
    | false => exact q _ G3 H3 (E2.grow g3) ((g1.trans g2).trans g3.g) (.bl false)⟩)
theorem et_chain {op op' : CmpOp} {r r' : R2} {c : Expr} {d3 : PyData} {k1 k2 : Bool} (ho : OpR X (compareOp op) r) (ho' : OpR X (compareOp op') r') (ha : Ev X a s0 s1 d1) (hb : Ev X b s1 s2 d2) (h1 : RD X.K r d1 d2 (.bool k1)) (hc : k1 = true → Ev X c s2 s2 d3) (h2 : k1 = true → RD X.K r' d2 d3 (.bool k2))
    (hm : lastMarks [op, op'] [b, c] = false := by with_unfolding_all rfl) : EvT X (.Compare a [op, op'] [b, c] pos) s0 s2 (k1 && k2) := .mk fun E Q q =>
  WT.of (pt_chain ho ho' pe_W pe_W pe_W hm) (ha E _ fun v G1 H1 E1 g1 r1 => hb E1 _ fun w G2 H2 E2 g2 r2 => h1 E2.s (dp_mono g2 d1 r1) r2 _ fun u G3 H3 g3 r3 => ⟨k1, dp_bl r3, by
    cases k1 with
    | true =>
      show W X c _ H3 _
      exact hc rfl (E2.grow g3) _ fun v' G4 H4 E4 g4 r4 => h2 rfl E4.s (dp_mono (g3.g.trans g4) d2 r2) r4 _ fun u5 G5 H5 g5 r5 => ⟨k2, dp_bl r5, q G5 H5 (E4.grow g5) ((((g1.trans g2).trans g3.g).trans g4).trans g5.g)⟩
    | false => exact ⟨false, rfl, q G3 H3 (E2.grow g3) ((g1.trans g2).trans g3.g)⟩⟩)

/-! ### tests -/
theorem et_val {c : Bool} (h : Ev X a s0 s1 (.bool c)) (he : ∀ whole, isTrue a X.env whole = (do let v ← whole; standAt a.pos; holding [v] (truthy v)) := by intro _; rfl) : EvT X a s0 s1 c := .mk fun E Q q =>
  WT.of (pt_val pe_W he) (h E _ fun v G' H' E' g r => ⟨c, dp_bl r, q G' H' E' g⟩)
def WP (X : Cx) (e : Expr) : TT := fun σ H Q => ∀ whole pins s, L2.Inv X pins σ H s → wpAny (model X.prog X.w) X.A (isTrue e X.env whole) (TP X pins σ Q) X.xe s
theorem pw_W : PW X e (WP X e) := ⟨fun wh pins s σ H Q I h => h wh pins s I⟩
/-- and, or, as a test -/
structure EvP (X : Cx) (e : Expr) (sl sl' : List Sl) (b : Bool) : Prop where
  run : ∀ {G₀ H₀ G H : Hp} {σ : L2.St}, En X.K G₀ H₀ G H σ sl → ∀ Q : Bool → Hp → Prop, (∀ G' H', En X.K G₀ H₀ G' H' σ sl' → Ex G G' → Q b H') → WP X e σ H Q
instance {X : Cx} {e : Expr} {sl sl' : List Sl} {b : Bool} : CoeFun (EvP X e sl sl' b) (fun _ => ∀ {G₀ H₀ G H : Hp} {σ : L2.St}, En X.K G₀ H₀ G H σ sl → ∀ Q : Bool → Hp → Prop, (∀ G' H', En X.K G₀ H₀ G' H' σ sl' → Ex G G' → Q b H') → WP X e σ H Q) := ⟨fun h => h.run⟩
theorem WP.of {t : TT} {σ : L2.St} {H : Hp} {Q : Bool → Hp → Prop} (h : PW X e t) (q : t σ H Q) : WP X e σ H Q := fun wh pins s I => h.run wh pins s σ H Q I q
theorem EvP.et {c : Bool} (h : EvP X e s0 s1 c) : EvT X e s0 s1 c := .mk fun E Q q => WT.of pw_W.pt (h E Q q)
theorem ep_and1 {c : Bool} (h : EvT X a s0 s1 c) : EvP X (.BoolOp .And [a] pos) s0 s1 c := .mk fun E Q q => WP.of (pw_and1 pt_W) (h E Q q)
theorem ep_or1 {c : Bool} (h : EvT X a s0 s1 c) : EvP X (.BoolOp .Or [a] pos) s0 s1 c := .mk fun E Q q => WP.of (pw_or1 pt_W) (h E Q q)
theorem ep_and {c k : Bool} {rest : List Expr} (h : EvT X a s0 s1 c) (h2 : c = true → EvP X (.BoolOp .And (b :: rest) pos) s1 s1 k) : EvP X (.BoolOp .And (a :: b :: rest) pos) s0 s1 (c && k) := .mk fun E Q q =>
  WP.of (pw_and pt_W pw_W) (h E _ fun G' H' E' g => by
    cases c with
    | true => exact h2 rfl E' Q fun G2 H2 E2 g2 => q G2 H2 E2 (g.trans g2)
    | false => exact q G' H' E' g)
theorem ep_or {c k : Bool} {rest : List Expr} (h : EvT X a s0 s1 c) (h2 : c = false → EvP X (.BoolOp .Or (b :: rest) pos) s1 s1 k) : EvP X (.BoolOp .Or (a :: b :: rest) pos) s0 s1 (c || k) := .mk fun E Q q =>
  WP.of (pw_or pt_W pw_W) (h E _ fun G' H' E' g => by
    cases c with
    | false => exact h2 rfl E' Q fun G2 H2 E2 g2 => q G2 H2 E2 (g.trans g2)
    | true => exact q G' H' E' g)
theorem et_not {c : Bool} (h : EvT X a s0 s1 c) : EvT X (.UnaryOp .Not a pos) s0 s1 (!c) := .mk fun E Q q => WT.of (pt_not pt_W) (h E _ fun G' H' E' g => q G' H' E' g)
theorem ev_not {c : Bool} (h : Ev X a s0 s1 (.bool c)) : Ev X (.UnaryOp .Not a pos) s0 s1 (.bool (!c)) := .mk fun E Q q => W.of (pe_not pe_W) (h E _ fun v G' H' E' g r => ⟨c, dp_bl r, q _ G' H' E' g (.bl _)⟩)
theorem ev_one {op : BoolOp} (h : Ev X a s0 s1 d) : Ev X (.BoolOp op [a] pos) s0 s1 d := .mk fun E Q q => W.of (pe_one pe_W) (h E Q q)
theorem ev_and {c k : Bool} {rest : List Expr} (h : Ev X a s0 s1 (.bool c)) (h2 : c = true → Ev X (.BoolOp .And (b :: rest) pos) s1 s1 (.bool k)) : Ev X (.BoolOp .And (a :: b :: rest) pos) s0 s1 (.bool (c && k)) := .mk fun E Q q =>
  W.of (pe_and pe_W pe_W) (h E _ fun v G' H' E' g r => ⟨c, dp_bl r, by
    cases c with
    | true => exact h2 rfl E' Q fun u G2 H2 E2 g2 r2 => q u G2 H2 E2 (g.trans g2) r2
    | false => exact q _ G' H' E' g (.bl false)⟩)
theorem ev_or {c k : Bool} {rest : List Expr} (h : Ev X a s0 s1 (.bool c)) (h2 : c = false → Ev X (.BoolOp .Or (b :: rest) pos) s1 s1 (.bool k)) : Ev X (.BoolOp .Or (a :: b :: rest) pos) s0 s1 (.bool (c || k)) := .mk fun E Q q =>
  W.of (pe_or pe_W pe_W) (h E _ fun v G' H' E' g r => ⟨c, dp_bl r, by
    cases c with
    | false => exact h2 rfl E' Q fun u G2 H2 E2 g2 r2 => q u G2 H2 E2 (g.trans g2) r2
    | true => exact q _ G' H' E' g (.bl true)⟩)
theorem ev_ite {c : Expr} {k : Bool} (h : EvT X c s0 s1 k) (h1 : k = true → Ev X a s1 s2 d) (h2 : k = false → Ev X b s1 s2 d) : Ev X (.IfExp c a b pos) s0 s2 d := .mk fun E Q q =>
  W.of (pe_ifExp pt_W pe_W pe_W) (h E _ fun G' H' E' g => by
    cases k with
    | true => exact h1 rfl E' Q fun u G2 H2 E2 g2 r2 => q u G2 H2 E2 (g.trans g2) r2
    | false => exact h2 rfl E' Q fun u G2 H2 E2 g2 r2 => q u G2 H2 E2 (g.trans g2) r2)

/-! ### arguments, displays, calls -/
theorem ea_nil : EvA X [] s0 s0 [] := .mk fun {G₀ H₀ G H σ} E Q q => WA.of pa_nil (q [] G H E (Ex.refl G) .nil)
theorem ea_cons {ds : List PyData} (h : Ev X e s0 s1 d) (hr : EvA X es s1 s2 ds) (hs : starEach (e :: es) X.env = (false, eval e X.env) :: starEach es X.env := by rfl) : EvA X (e :: es) s0 s2 (d :: ds) := .mk fun E Q q =>
  WA.of (pa_cons pe_W pa_W hs) (h E _ fun v G' H' E' g r => hr E' _ fun vs G2 H2 E2 g2 r2 => q _ G2 H2 E2 (g.trans g2) (.cons (dp_mono g2 d r) r2))
theorem ev_tup {ds : List PyData} {x1 : Nat} (h : EvA X es s0 s1 ds) (hl : ds.length ≤ 1000 := by first | decide | simp) : Ev X (.Tuple es x1 pos) s0 s1 (.tuple ds) := .mk fun E Q q =>
  W.of (pe_tup pa_W) (h E _ fun vs G' H' E' g r => ⟨Nat.le_trans (by rw [dpAll_len r]; exact hl) (by decide), fun p hp =>
    q _ (L2.upd G' p (.tup vs)) _ (E'.grow (.new E'.s hp)) (g.trans (Ex.new (E'.s.back hp))) (.tup upd_same (dpAll_mono (Ex.new (E'.s.back hp)) ds r))⟩)
theorem el_lst {ds : List PyData} (h : EvA X es s0 s1 ds) (hl : ds.length ≤ 1000 := by first | decide | simp) : EvL X (.List es pos) s0 s1 ds := .mk fun E Q q =>
  W.of (pe_lst pa_W) (h E _ fun vs G' H' E' g r => ⟨Nat.le_trans (by rw [dpAll_len r]; exact hl) (by decide), fun p hp => q p vs G' H' E' g hp r⟩)
theorem ev_callB {x id : _} {r : List V → Hp → VK → Prop} {ds : List PyData} {p : Pos} (hc : CallR X (.builtin id) r) (ha : EvA X (e :: es) s0 s1 ds) (hr : RC X.K r ds z) (hm : X.mg x = none) (hg : Gl X x := by rfl) (hv : bootBuiltins x = some (.builtin id) := by decide +kernel) (hn : x ≠ "__name__" := by decide) (hdb : (x == ("__debug__" : Str)) = false := by decide)
    (he : starEach (e :: es) X.env = (false, eval e X.env) :: starEach es X.env := by rfl) (hpl : (backTo pos (starEach es X.env)).any (·.1) = false := by rfl) : Ev X (.Call (.Name x p) (e :: es) [] pos) s0 s1 z := .mk fun E Q q =>
  W.of (pe_callB hc hg hm hv pa_W hn hdb he hpl) (ha E _ fun vs G1 H1 E1 g1 r1 => hr E1.s r1 Q fun u G3 H3 g3 r3 => q u G3 H3 (E1.grow g3) (g1.trans g3.g) r3)
theorem el_callB {x id : _} {r : List V → Hp → VK → Prop} {ds xs : List PyData} {p : Pos} (hc : CallR X (.builtin id) r) (ha : EvA X (e :: es) s0 s1 ds) (hr : RCL X.K r ds xs) (hm : X.mg x = none) (hg : Gl X x := by rfl) (hv : bootBuiltins x = some (.builtin id) := by decide +kernel) (hn : x ≠ "__name__" := by decide) (hdb : (x == ("__debug__" : Str)) = false := by decide)
    (he : starEach (e :: es) X.env = (false, eval e X.env) :: starEach es X.env := by rfl) (hpl : (backTo pos (starEach es X.env)).any (·.1) = false := by rfl) : EvL X (.Call (.Name x p) (e :: es) [] pos) s0 s1 xs := .mk fun E Q q =>
  W.of (pe_callB hc hg hm hv pa_W hn hdb he hpl) (ha E _ fun vs G1 H1 E1 g1 r1 => hr E1.s r1 Q fun a ws h3 r3 => q a ws G1 H1 E1 g1 h3 r3)
theorem ev_callTy {x T : _} {r : List V → Hp → VK → Prop} {ds : List PyData} {p : Pos} (hc : CallR X (.type T) r) (ha : EvA X (e :: es) s0 s1 ds) (hr : RC X.K r ds z) (hm : X.mg x = none) (hg : Gl X x := by rfl) (hv : bootBuiltins x = some (.type T) := by decide +kernel) (hn : x ≠ "__name__" := by decide) (hdb : (x == ("__debug__" : Str)) = false := by decide)
    (he : starEach (e :: es) X.env = (false, eval e X.env) :: starEach es X.env := by rfl) (hpl : (backTo pos (starEach es X.env)).any (·.1) = false := by rfl) : Ev X (.Call (.Name x p) (e :: es) [] pos) s0 s1 z := .mk fun E Q q =>
  W.of (pe_callTy hc hg hm hv pa_W hn hdb he hpl) (ha E _ fun vs G1 H1 E1 g1 r1 => hr E1.s r1 Q fun u G3 H3 g3 r3 => q u G3 H3 (E1.grow g3) (g1.trans g3.g) r3)
theorem el_callTy {x T : _} {r : List V → Hp → VK → Prop} {ds xs : List PyData} {p : Pos} (hc : CallR X (.type T) r) (ha : EvA X (e :: es) s0 s1 ds) (hr : RCL X.K r ds xs) (hm : X.mg x = none) (hg : Gl X x := by rfl) (hv : bootBuiltins x = some (.type T) := by decide +kernel) (hn : x ≠ "__name__" := by decide) (hdb : (x == ("__debug__" : Str)) = false := by decide)
    (he : starEach (e :: es) X.env = (false, eval e X.env) :: starEach es X.env := by rfl) (hpl : (backTo pos (starEach es X.env)).any (·.1) = false := by rfl) : EvL X (.Call (.Name x p) (e :: es) [] pos) s0 s1 xs := .mk fun E Q q =>
  W.of (pe_callTy hc hg hm hv pa_W hn hdb he hpl) (ha E _ fun vs G1 H1 E1 g1 r1 => hr E1.s r1 Q fun a ws h3 r3 => q a ws G1 H1 E1 g1 h3 r3)
/-- math.gcd and its like, imported -/
theorem ev_callF {x id : _} {r : List V → Hp → VK → Prop} {ds : List PyData} {p : Pos} (hc : CallR X (.builtin id) r) (ha : EvA X (e :: es) s0 s1 ds) (hr : RC X.K r ds z) (hm : X.mg x = some (.builtin id)) (hg : Gl X x := by rfl) (hdb : (x == ("__debug__" : Str)) = false := by decide)
    (he : starEach (e :: es) X.env = (false, eval e X.env) :: starEach es X.env := by rfl) (hpl : (backTo pos (starEach es X.env)).any (·.1) = false := by rfl) : Ev X (.Call (.Name x p) (e :: es) [] pos) s0 s1 z := .mk fun E Q q =>
  W.of (pe_callBfun hc hg hm pa_W hdb he hpl) (ha E _ fun vs G1 H1 E1 g1 r1 => hr E1.s r1 Q fun u G3 H3 g3 r3 => q u G3 H3 (E1.grow g3) (g1.trans g3.g) r3)
/-- a[i] -/
theorem ev_ix {r : R2} (hr : IxR X r) (ha : Ev X a s0 s1 d1) (hb : Ev X b s1 s2 d2) (h : RD X.K r d1 d2 z) (hs : PlainIx b := by intro _ _; rfl) : Ev X (.Subscript a b pos) s0 s2 z := .mk fun E Q q =>
  W.of (pe_ix hr pe_W pe_W hs) (ha E _ fun v G1 H1 E1 g1 r1 => hb E1 _ fun w G2 H2 E2 g2 r2 => h E2.s (dp_mono g2 d1 r1) r2 Q fun u G3 H3 g3 r3 => q u G3 H3 (E2.grow g3) ((g1.trans g2).trans g3.g) r3)
end
end Ewl
-- DL3
set_option Elab.async false
set_option linter.all false
set_option maxRecDepth 100000
set_option maxHeartbeats 2000000
/-! Statements over data; what a def promises. -/
namespace Ewl
open PySem L2

/-- a block's end: it goes on with these slots, or hands back data -/
inductive Res where
  | nx (sl : List Sl)
  | ret (sl : List Sl) (d : PyData)
def ResOk (X : Cx) (G₀ H₀ G : Hp) (D : Ends) : Res → Prop
  | .nx sl => ∀ σ G' H', En X.K G₀ H₀ G' H' σ sl → Ex G G' → D.nx σ H'
  | .ret sl d => ∀ v σ G' H', En X.K G₀ H₀ G' H' σ sl → Ex G G' → Dd X.K G' v d → D.rt v H'
theorem ResOk.back {X : Cx} {G₀ H₀ G G1 : Hp} {D : Ends} (g : Ex G G1) : ∀ {r : Res}, ResOk X G₀ H₀ G D r → ResOk X G₀ H₀ G1 D r
  | .nx _, h => fun σ G' H' E e => h σ G' H' E (g.trans e)
  | .ret _ _, h => fun v σ G' H' E e r => h v σ G' H' E (g.trans e) r
/-- a statement, a block -/
structure St1 (X : Cx) (st : Stmt) (sl : List Sl) (r : Res) : Prop where
  run : ∀ {G₀ H₀ G H : Hp} {σ : L2.St}, En X.K G₀ H₀ G H σ sl → ∀ D : Ends, ResOk X G₀ H₀ G D r → WS X st D σ H
instance {X : Cx} {st : Stmt} {sl : List Sl} {r : Res} : CoeFun (St1 X st sl r) (fun _ => ∀ {G₀ H₀ G H : Hp} {σ : L2.St}, En X.K G₀ H₀ G H σ sl → ∀ D : Ends, ResOk X G₀ H₀ G D r → WS X st D σ H) := ⟨fun h => h.run⟩
structure Sv (X : Cx) (ss : List Stmt) (sl : List Sl) (r : Res) : Prop where
  run : ∀ {G₀ H₀ G H : Hp} {σ : L2.St}, En X.K G₀ H₀ G H σ sl → ∀ D : Ends, ResOk X G₀ H₀ G D r → WB X ss D σ H
instance {X : Cx} {ss : List Stmt} {sl : List Sl} {r : Res} : CoeFun (Sv X ss sl r) (fun _ => ∀ {G₀ H₀ G H : Hp} {σ : L2.St}, En X.K G₀ H₀ G H σ sl → ∀ D : Ends, ResOk X G₀ H₀ G D r → WB X ss D σ H) := ⟨fun h => h.run⟩

section
variable {X : Cx} {st : Stmt} {ss : List Stmt} {e c : Expr} {es : List Expr} {s0 s1 s2 s3 : List Sl} {d d1 d2 z : PyData} {pos : Pos} {r : Res}
theorem sv_nil : Sv X [] s0 (.nx s0) := .mk fun {G₀ H₀ G H σ} E D h => WB.of pss_nil (h σ G H E (Ex.refl G))
theorem sv_nx (h : St1 X st s0 (.nx s1)) (h2 : Sv X ss s1 r) : Sv X (st :: ss) s0 r := .mk fun {G₀ H₀ G H σ} E D k =>
  WB.of (pss_cons ps_W pss_W) (h E { D with nx := WB X ss D } fun σ' G' H' E' g => h2 E' D (k.back g))
theorem sv_ret (h : St1 X st s0 (.ret s1 d)) : Sv X (st :: ss) s0 (.ret s1 d) := .mk fun {G₀ H₀ G H σ} E D k =>
  WB.of (pss_cons ps_W pss_W) (h E { D with nx := WB X ss D } k)
theorem sv_one (h : St1 X st s0 r) : Sv X [st] s0 r := .mk fun E D k => WB.of (pss_one ps_W) (h E D k)
/-- slots that one forgets: told as .x, or frozen -/
theorem sv_frz {i : Nat} {xs : List PyData} (hi : s0[i]? = some (.l xs)) (h : Sv X ss (s0.set i (.d (.list xs))) r) : Sv X ss s0 r := .mk fun E D k => by
  obtain ⟨G', g, E'⟩ := E.frzL hi
  exact h E' D (k.back g)
theorem ev_frz {i : Nat} {xs : List PyData} (hi : s0[i]? = some (.l xs)) (h : Ev X e (s0.set i (.d (.list xs))) s1 d) : Ev X e s0 s1 d := .mk fun E Q q => by
  obtain ⟨G', g, E'⟩ := E.frzL hi
  exact h E' Q fun v G2 H2 E2 g2 r2 => q v G2 H2 E2 (g.trans g2) r2
theorem en_drop {K : PySem.W.Frag} {G₀ H₀ G H : Hp} {σ : L2.St} {sls : List Sl} (E : En K G₀ H₀ G H σ sls) (i : Nat) : En K G₀ H₀ G H σ (sls.set i .x) :=
  E.forget (by rw [List.length_set, E.len]) fun j => by
    by_cases q : i = j
    · subst q
      by_cases hi : i < sls.length
      · exact .inl (List.getElem?_set_self hi)
      · exact .inr (.inl (by rw [List.getElem?_eq_none_iff, List.length_set]; omega))
    · exact .inr (.inr ⟨List.getElem?_set_ne q, rfl⟩)
theorem sv_drop (i : Nat) (h : Sv X ss (s0.set i .x) r) : Sv X ss s0 r := .mk fun E D k => h (en_drop E i) D k

/-! ### assignments -/
theorem st_asg {i : Nat} {x : Str} {pos' : Pos} (h : Ev X e s0 s1 d) (hi : X.N[i]? = some x) (hl : i < s1.length) (hN : X.N.Nodup) (hx : Loc X.env.scope x := by first | exact Or.inl rfl | exact Or.inr rfl) (hs : swapsWith e (some (.Name x pos')) pos.line X.env = pure false := by rfl)
    (hf : X.fn x = true ∨ X.env.scope.names.lookup x = some .local := by first | exact .inl rfl | exact .inr rfl) : St1 X (.Assign [.Name x pos'] e pos) s0 (.nx (s1.set i (.d d))) := .mk fun E D k =>
  WS.of (ps_set hN hi hx pe_W hs hf) (h E _ fun v G' H' E' g r => k _ G' H' (E'.setD hl r) g)
theorem st_asgL {i : Nat} {x : Str} {pos' : Pos} {xs : List PyData} (h : EvL X e s0 s1 xs) (hi : X.N[i]? = some x) (hl : i < s1.length) (hN : X.N.Nodup) (hx : Loc X.env.scope x := by first | exact Or.inl rfl | exact Or.inr rfl) (hs : swapsWith e (some (.Name x pos')) pos.line X.env = pure false := by rfl)
    (hf : X.fn x = true ∨ X.env.scope.names.lookup x = some .local := by first | exact .inl rfl | exact .inr rfl) : St1 X (.Assign [.Name x pos'] e pos) s0 (.nx (s1.set i (.l xs))) := .mk fun E D k =>
  WS.of (ps_set hN hi hx pe_W hs hf) (h E _ fun a vs G' H' E' g ha r => k _ G' _ (E'.setL hl ha r) g)
theorem st_ret (h : Ev X e s0 s1 d) : St1 X (.Return (some e) pos) s0 (.ret s1 d) := .mk fun {G₀ H₀ G H σ} E D k => WS.of (ps_ret pe_W) (h E _ fun v G' H' E' g r => k v _ G' H' E' g r)
theorem st_drop (h : Ev X e s0 s1 d) (hs : swapsWith e none pos.line X.env = pure false := by rfl) : St1 X (.Expr e pos) s0 (.nx s1) := .mk fun {G₀ H₀ G H σ} E D k => WS.of (ps_expr pe_W hs) (h E _ fun v G' H' E' g r => k _ G' H' E' g)
theorem st_pass : St1 X (.Pass pos) s0 (.nx s0) := .mk fun {G₀ H₀ G H σ} E D k => WS.of ps_pass (k σ G H E (Ex.refl G))
theorem st_if {a b : List Stmt} {k : Bool} (h : EvT X c s0 s1 k) (h1 : k = true → Sv X a s1 r) (h2 : k = false → Sv X b s1 r) : St1 X (.If c a b pos) s0 r := .mk fun {G₀ H₀ G H σ} E D q =>
  WS.of (ps_if pt_W pss_W pss_W) (h E _ fun G' H' E' g => by
    cases k with
    | true => exact h1 rfl E' D (q.back g)
    | false => exact h2 rfl E' D (q.back g))
theorem st_ifT {a b : List Stmt} (h : EvT X c s0 s1 true) (h1 : Sv X a s1 r) : St1 X (.If c a b pos) s0 r := st_if h (fun _ => h1) fun q => nomatch q
theorem st_ifF {a b : List Stmt} (h : EvT X c s0 s1 false) (h1 : Sv X b s1 r) : St1 X (.If c a b pos) s0 r := st_if h (fun q => nomatch q) fun _ => h1

/-! ### targets of several names -/
def WG (X : Cx) (tg : Expr) : TG := fun v σ H Q => ∀ pins s u, L2.Inv X pins σ H s → RelV v u → wpAny (model X.prog X.w) X.A (assign tg X.env u) (fun _ s' => ∃ σ' H', L2.Inv X pins σ' H' s' ∧ Q σ' H') X.xe s
def WGs (X : Cx) (tgs : List Expr) : TGs := fun vs σ H Q => ∀ pins s us, L2.Inv X pins σ H s → Vals vs us → wpAny (model X.prog X.w) X.A (assignInOrder ((assignEach tgs X.env).map (·.2)) us) (fun _ s' => ∃ σ' H', L2.Inv X pins σ' H' s' ∧ Q σ' H') X.xe s
theorem pg_W {tg : Expr} : PG X tg (WG X tg) := ⟨fun pins s σ H v u Q I r h => h pins s u I r⟩
theorem pgs_W {tgs : List Expr} : PGs X tgs (WGs X tgs) := ⟨fun pins s σ H v u Q I r h => h pins s u I r⟩
theorem WG.of {tg : Expr} {t : TG} {v : V} {σ : L2.St} {H : Hp} {Q : L2.St → Hp → Prop} (h : PG X tg t) (q : t v σ H Q) : WG X tg v σ H Q := fun pins s u I r => h.run pins s σ H v u Q I r q
theorem WGs.of {tgs : List Expr} {t : TGs} {vs : List V} {σ : L2.St} {H : Hp} {Q : L2.St → Hp → Prop} (h : PGs X tgs t) (q : t vs σ H Q) : WGs X tgs vs σ H Q := fun pins s u I r => h.run pins s σ H vs u Q I r q
/-- d is given to the target; ts: the slots that it fills -/
structure Tg (X : Cx) (tg : Expr) (sl : List Sl) (d : PyData) (sl' : List Sl) (ts : List Nat) : Prop where
  run : ∀ {G₀ H₀ G H : Hp} {σ : L2.St} {v : V}, En X.K G₀ H₀ G H σ sl → Dd X.K G v d → ∀ Q : L2.St → Hp → Prop, (∀ σ', En X.K G₀ H₀ G H σ' sl' → σ'.length = σ.length → (∀ j : Nat, j ∉ ts → σ'[j]? = σ[j]?) → Q σ' H) → WG X tg v σ H Q
instance {X : Cx} {tg : Expr} {sl : List Sl} {d : PyData} {sl' : List Sl} {ts : List Nat} : CoeFun (Tg X tg sl d sl' ts) (fun _ => ∀ {G₀ H₀ G H : Hp} {σ : L2.St} {v : V}, En X.K G₀ H₀ G H σ sl → Dd X.K G v d → ∀ Q : L2.St → Hp → Prop, (∀ σ', En X.K G₀ H₀ G H σ' sl' → σ'.length = σ.length → (∀ j : Nat, j ∉ ts → σ'[j]? = σ[j]?) → Q σ' H) → WG X tg v σ H Q) := ⟨fun h => h.run⟩
structure Tgs (X : Cx) (tgs : List Expr) (sl : List Sl) (ds : List PyData) (sl' : List Sl) (ts : List Nat) : Prop where
  run : ∀ {G₀ H₀ G H : Hp} {σ : L2.St} {vs : List V}, En X.K G₀ H₀ G H σ sl → DdAll X.K G vs ds → ∀ Q : L2.St → Hp → Prop, (∀ σ', En X.K G₀ H₀ G H σ' sl' → σ'.length = σ.length → (∀ j : Nat, j ∉ ts → σ'[j]? = σ[j]?) → Q σ' H) → WGs X tgs vs σ H Q
instance {X : Cx} {tgs : List Expr} {sl : List Sl} {ds : List PyData} {sl' : List Sl} {ts : List Nat} : CoeFun (Tgs X tgs sl ds sl' ts) (fun _ => ∀ {G₀ H₀ G H : Hp} {σ : L2.St} {vs : List V}, En X.K G₀ H₀ G H σ sl → DdAll X.K G vs ds → ∀ Q : L2.St → Hp → Prop, (∀ σ', En X.K G₀ H₀ G H σ' sl' → σ'.length = σ.length → (∀ j : Nat, j ∉ ts → σ'[j]? = σ[j]?) → Q σ' H) → WGs X tgs vs σ H Q) := ⟨fun h => h.run⟩
theorem tg_name {i : Nat} {x : Str} (hi : X.N[i]? = some x) (hl : i < s0.length) (hN : X.N.Nodup) (hx : Loc X.env.scope x := by first | exact Or.inl rfl | exact Or.inr rfl) (hf : X.fn x = true ∨ X.env.scope.names.lookup x = some .local := by first | exact .inl rfl | exact .inr rfl) : Tg X (.Name x pos) s0 d (s0.set i (.d d)) [i] := .mk fun E r Q q => WG.of (pg_name hN hi hx hf) (q _ (E.setD hl r) (by rw [List.length_set]) fun j hj => List.getElem?_set_ne (by simpa using Ne.symm (show j ≠ i by simpa using hj)))
theorem tgs_nil : Tgs X [] s0 [] s0 [] := .mk fun E r Q q => WGs.of pgs_nil (by cases r; exact ⟨rfl, q _ E rfl fun _ _ => rfl⟩)
theorem tgs_cons {ds : List PyData} {t1 t2 : List Nat} (h : Tg X e s0 d s1 t1) (hr : Tgs X es s1 ds s2 t2) (hs : (assignEach (e :: es) X.env).map (·.2) = assign e X.env :: (assignEach es X.env).map (·.2) := by rfl) : Tgs X (e :: es) s0 (d :: ds) s2 (t1 ++ t2) := .mk fun E r Q q => by
  refine WGs.of (pgs_cons pg_W pgs_W hs) ?_
  cases r with
  | cons r1 r2 => exact ⟨_, _, rfl, h E r1 _ fun σ' E' l1 k1 => hr E' r2 Q fun σ2 E2 l2 k2 => q σ2 E2 (l2.trans l1) fun j hj => (k2 j fun z => hj (List.mem_append_right _ z)).trans (k1 j fun z => hj (List.mem_append_left _ z))⟩
theorem tg_tup {ds : List PyData} {k : Nat} {ts : List Nat} (h : Tgs X es s0 ds s1 ts) (hc : X.calm = true := by rfl) (hn : (assignEach es X.env).length = ds.length := by rfl) (hst : (assignEach es X.env).findIdx? (·.1) = none := by rfl) : Tg X (.Tuple es k pos) s0 (.tuple ds) s1 ts := .mk fun E r Q q => by
  refine WG.of (pg_tup hc pgs_W hn hst) ?_
  cases r with
  | tup s a => exact ⟨_, _, rfl, SqT.of (E.s _ _ s), dpAll_len a, h E a Q q⟩
theorem st_asgT {tg : Expr} {ts : List Nat} (h : Ev X e s0 s1 d) (ht : Tg X tg s1 d s2 ts) (hs : swapsWithSole [tg] e pos.line X.env = pure false := by rfl) (hw : swappedStores [tg] e X.env = pure none := by rfl)
    (h1 : (assignEach [tg] X.env).map (·.2) = [assign tg X.env] := by rfl) : St1 X (.Assign [tg] e pos) s0 (.nx s2) := .mk fun E D k =>
  WS.of (ps_asg pe_W pg_W hs hw h1) (h E _ fun v G' H' E' gr r => ht E' r _ fun σ' E2 _ _ => k σ' G' H' E2 gr)
/-- a, b = x, y: told by what both hold, data or a list of one's own -/
theorem st_par {i j : Nat} {x y : Str} {a b : Expr} {px py pt : Pos} {kt k2 pt2} {v w : PyData} (ha : EvA X [a, b] s0 s1 [v, w]) (hi : X.N[i]? = some x) (hj : X.N[j]? = some y) (hij : i ≠ j) (hli : i < s1.length) (hlj : j < s1.length) (hN : X.N.Nodup)
    (hx : X.env.scope.names.lookup x = some .local := by rfl) (hy : X.env.scope.names.lookup y = some .local := by rfl) (hc : X.calm = true := by rfl)
    (hw : swappedStores [.Tuple [.Name x px, .Name y py] kt pt] (.Tuple [a, b] k2 pt2) X.env = pure (some [x, y]) := by rfl)
    (hs : swapsWithSole [.Tuple [.Name x px, .Name y py] kt pt] (.Tuple [a, b] k2 pt2) pos.line X.env = pure false := by rfl) :
    St1 X (.Assign [.Tuple [.Name x px, .Name y py] kt pt] (.Tuple [a, b] k2 pt2) pos) s0 (.nx ((s1.set i (.d v)).set j (.d w))) := .mk fun E D k =>
  WS.of (ps_par hc hN hi hj hij hx hy pa_W hw hs) (ha E _ fun vs G' H' E' g r => by
    cases r with
    | cons r1 r2 =>
      cases r2 with
      | cons r2 r3 =>
        cases r3
        exact ⟨_, _, rfl, k _ G' H' ((E'.setD hli r1).setD (by rw [List.length_set]; exact hlj) r2) g⟩)
end
end Ewl
-- DL4
set_option Elab.async false
set_option linter.all false
set_option maxRecDepth 100000
set_option maxHeartbeats 2000000
/-! What a def promises, over data; calls. -/
namespace Ewl
open PySem L2

/-- a def on data: g tells the result of the arguments -/
def spD (K : PySem.W.Frag) (g : List PyData → PyData → Prop) : Sp := fun vs H Q _ =>
  ∃ G ds z, Ex G H ∧ DdAll K G vs ds ∧ g ds z ∧ ∀ v G' H', Gw G H G' H' → Dd K G' v z → Q v H'
/-- a def whose first argument is a dict (texts as keys) that it changes: g tells the dict behind it and the result -/
def spS (K : PySem.W.Frag) (g : List (Key × PyData) → List PyData → List (Key × PyData) → PyData → Prop) : Sp := fun vs H Q _ =>
  ∃ G p ws ps kvs ds kvs' z, vs = .ref p :: ws ∧ Ex G H ∧ G p = none ∧ H p = some (.dK ps) ∧ KD K G ps kvs ∧ DdAll K G ws ds ∧ g kvs ds kvs' z ∧
    ∀ v G' H' ps', Ex G G' → Ex G' H' → (∀ b u, b ≠ p → H b = some u → H' b = some u) → (∀ b u, b ≠ p → H b = some u → NT u → G b = none → G' b = none) → G' p = none → H' p = some (.dK ps') → KD K G' ps' kvs' → Dd K G' v z → Q v H'
/-- a def on data that hands back a new dict -/
def spK (K : PySem.W.Frag) (g : List PyData → List (Key × PyData) → Prop) : Sp := fun vs H Q _ =>
  ∃ G ds kvs, Ex G H ∧ DdAll K G vs ds ∧ g ds kvs ∧ ∀ a ps G' H', Gw G H G' H' → H' a = none → KD K G' ps kvs → Q (.ref a) (L2.upd H' a (.dK ps))

/-- the def x stands so in the module, and keeps its promise -/
def Fn (P : Program) (w : World) (K : PySem.W.Frag) (mg : Str → Option Value) (base : Heap) (x : Str) (k : Nat) (sp : Sp) : Prop :=
  ∃ (f : Addr) (fd : FuncData) (ps : List Str) (ds : List Value) , ds = [] ∧ mg x = some (.ref f) ∧ PySem.W.keepIn K (.ref f) = true ∧ FnOk P w K mg base CX0 k f fd ps sp ∧ Binds K fd ps ds
section
variable {X : Cx} {e : Expr} {es : List Expr} {s0 s1 s2 : List Sl} {ds : List PyData} {z : PyData} {pos p : Pos} {x : Str} {k : Nat}
theorem ev_call {g : List PyData → PyData → Prop} (F : Fn X.prog X.w X.K X.mg X.base x k (spD X.K g)) (hr : Room k X.A) (ha : EvA X (e :: es) s0 s1 ds) (hg : g ds z) (hgl : Gl X x := by rfl) (hdb : (x == ("__debug__" : Str)) = false := by decide)
    (he : starEach (e :: es) X.env = (false, eval e X.env) :: starEach es X.env := by rfl) (hpl : (backTo pos (starEach es X.env)).any (·.1) = false := by rfl) : Ev X (.Call (.Name x p) (e :: es) [] pos) s0 s1 z := .mk fun E Q q => by
  obtain ⟨f, fd, ps, ds', e', hm, hk, hf, hb⟩ := F
  subst e'
  refine W.of (pe_call hf hr hgl hm hk hb .nil pass0 pa_W hdb he hpl) (ha E _ fun vs G1 H1 E1 g1 r1 => ?_)
  refine ⟨G1, ds, z, E1.s, by rw [List.append_nil]; exact r1, hg, fun v G2 H2 g2 r2 => q v G2 H2 (E1.grow g2) (g1.trans g2.g) r2⟩
/-- f(state, ..): the dict stands in slot i -/
theorem ev_callS {g : List (Key × PyData) → List PyData → List (Key × PyData) → PyData → Prop} {i : Nat} {y : Str} {py : Pos} {o : Option Addr} {kvs kvs' : List (Key × PyData)} (F : Fn X.prog X.w X.K X.mg X.base x k (spS X.K g)) (hr : Room k X.A)
    (ha : EvA X es s0 s1 ds) (hs : s1[i]? = some (.dk o kvs)) (hs0 : ∃ o' kvs', s0[i]? = some (.dk o' kvs')) (hg : g kvs ds kvs' z) (hN : X.N[i]? = some y) (hv : Vis X.env.scope y := by first | exact Or.inl rfl | exact Or.inr (Or.inl rfl) | exact Or.inr (Or.inr rfl))
    (hd : (y == ("__debug__" : Str)) = false := by decide) (hcd : (y == ("__classdict__" : Str)) = false := by decide) (hgl : Gl X x := by rfl) (hdb : (x == ("__debug__" : Str)) = false := by decide)
    (he : starEach (.Name y py :: es) X.env = (false, eval (.Name y py) X.env) :: starEach es X.env := by rfl) (hpl : (backTo pos (starEach es X.env)).any (·.1) = false := by rfl) : Ev X (.Call (.Name x p) (.Name y py :: es) [] pos) s0 (s1.set i (.dk o kvs')) z := .mk fun {G₀ H₀ G H σ} E Q q => by
  obtain ⟨f, fd, ps, ds', e', hm, hk, hf, hb⟩ := F
  subst e'
  obtain ⟨o', kvs0, hs0⟩ := hs0
  obtain ⟨a, ps0, hσ, _⟩ := E.getK hs0
  refine W.of (pe_call hf hr hgl hm hk hb .nil pass0 (pa_cons (pe_var hN hv hd hcd) pa_W he) hdb he hpl) ?_
  refine ⟨.ref a, hσ, ?_⟩
  refine ha E _ fun vs G1 H1 E1 g1 r1 => ?_
  obtain ⟨a', ps1, hσ', eo, gn, h0, ha1, rk⟩ := E1.getK hs
  rw [hσ] at hσ'
  cases hσ'
  refine ⟨G1, a, vs, ps1, kvs, ds, kvs', z, by rw [List.append_nil], E1.s, gn, ha1, rk, r1, hg, fun v G2 H2 ps2 g2 s2 k1 k2 n2 h2 rk2 rz => ?_⟩
  exact q v G2 H2 (E1.putK hs hσ g2 s2 k1 k2 n2 h2 rk2) (g1.trans g2) rz
/-- y = f(..), f hands back a new dict -/
theorem st_asgK {g : List PyData → List (Key × PyData) → Prop} {i : Nat} {y : Str} {py sp' : Pos} {kvs : List (Key × PyData)} (F : Fn X.prog X.w X.K X.mg X.base x k (spK X.K g)) (hr : Room k X.A) (ha : EvA X (e :: es) s0 s1 ds) (hg : g ds kvs) (hi : X.N[i]? = some y) (hl : i < s1.length) (hN : X.N.Nodup)
    (hx : Loc X.env.scope y := by first | exact Or.inl rfl | exact Or.inr rfl) (hgl : Gl X x := by rfl) (hdb : (x == ("__debug__" : Str)) = false := by decide)
    (he : starEach (e :: es) X.env = (false, eval e X.env) :: starEach es X.env := by rfl) (hpl : (backTo pos (starEach es X.env)).any (·.1) = false := by rfl)
    (hs : swapsWith (.Call (.Name x p) (e :: es) [] pos) (some (.Name y py)) sp'.line X.env = pure false := by rfl)
    (hf : X.fn y = true ∨ X.env.scope.names.lookup y = some .local := by first | exact .inl rfl | exact .inr rfl) : St1 X (.Assign [.Name y py] (.Call (.Name x p) (e :: es) [] pos) sp') s0 (.nx (s1.set i (.dk none kvs))) := .mk fun E D kk => by
  obtain ⟨f, fd, ps, ds', e', hm, hk, hf', hb⟩ := F
  subst e'
  refine WS.of (ps_set hN hi hx (pe_call hf' hr hgl hm hk hb .nil pass0 pa_W hdb he hpl) hs hf) (ha E _ fun vs G1 H1 E1 g1 r1 => ?_)
  refine ⟨G1, ds, kvs, E1.s, by rw [List.append_nil]; exact r1, hg, fun a ps2 G2 H2 g2 ha2 r2 => ?_⟩
  exact kk _ G2 _ ((E1.grow g2).setK hl ha2 r2) (g1.trans g2.g)
end

/-! ### a def's body keeps its promise -/
section
variable {P : Program} {w : World} {K : PySem.W.Frag} {mg : Str → Option Value} {base : Heap}
theorem slots_get {vs : List V} {ds : List PyData} {G : Hp} (h : DdAll K G vs ds) (i : Nat) (n : Nat) : SlotIs K G H (vs.map some ++ List.replicate n none) (ds.map Sl.d ++ List.replicate n Sl.x) i [] := by
  have hl := dpAll_len h
  by_cases q : i < ds.length
  · have e1 : (ds.map Sl.d ++ List.replicate n Sl.x)[i]? = some (.d ds[i]) := by
      rw [List.getElem?_append_left (by simpa using q)]
      simp [q]
    obtain ⟨v, h1, h2⟩ := dpAll_get h (show ds[i]? = some ds[i] by simp [q])
    refine .of e1 (v := v) ?_ ⟨rfl, h2⟩
    rw [List.getElem?_append_left (by simpa [hl] using q)]
    simp [h1]
  · have e1 : (ds.map Sl.d ++ List.replicate n Sl.x)[i]? = none ∨ (ds.map Sl.d ++ List.replicate n Sl.x)[i]? = some .x := by
      rw [List.getElem?_append_right (by simpa using q)]
      simp only [List.length_map]
      by_cases z : i - ds.length < n
      · right; simp [z]
      · left; simp; omega
    unfold SlotIs
    rcases e1 with e1 | e1 <;> rw [e1]
/-- the entry's slots -/
theorem en_start {vs : List V} {ds : List PyData} {G H : Hp} {N : List Str} (s : Ex G H) (h : DdAll K G vs ds) : En K G H G H (L2.start N vs) (ds.map Sl.d ++ List.replicate (N.length - ds.length) Sl.x) := by
  have hl := dpAll_len h
  refine ⟨.refl s, ?_, fun _ => [], fun i => ?_, fun i j a ha _ => (by cases ha), fun i a ha => (by cases ha)⟩
  · unfold L2.start
    simp [hl]
  · unfold L2.start
    rw [hl]
    exact slots_get h i _
theorem en_startS {vs : List V} {ds : List PyData} {G H : Hp} {N : List Str} {p : Addr} {ps : List (Key × V)} {kvs : List (Key × PyData)} (s : Ex G H) (gn : G p = none) (hp : H p = some (.dK ps)) (hk : KD K G ps kvs) (h : DdAll K G vs ds) :
    En K G (del H p) G H (L2.start N (.ref p :: vs)) (.dk (some p) kvs :: (ds.map Sl.d ++ List.replicate (N.length - (ds.length + 1)) Sl.x)) := by
  have hl := dpAll_len h
  refine ⟨⟨Ex.refl G, fun a o e => ?_, s, fun a o e _ n => n⟩, ?_, fun i => if i = 0 then [p] else [], fun i => ?_, fun i j a ha hb => ?_, fun i a ha => ?_⟩
  · by_cases q : a = p
    · subst q; rw [del_same] at e; cases e
    · rw [del_ne q] at e; exact e
  · unfold L2.start
    simp [hl]
  · cases i with
    | zero => exact .of rfl rfl ⟨p, ps, rfl, ⟨rfl, fun b e => (Option.some.inj e).symm⟩, gn, hp, hk⟩
    | succ i =>
      have q := slots_get (H := H) h i (N.length - (ds.length + 1))
      show SlotIs K G H (L2.start N (.ref p :: vs)) _ (i + 1) (if i + 1 = 0 then [p] else [])
      rw [if_neg (by omega)]
      have e : L2.start N (.ref p :: vs) = some (.ref p) :: (vs.map some ++ List.replicate (N.length - (ds.length + 1)) none) := by
        unfold L2.start
        rw [List.map_cons, List.length_cons, List.cons_append, hl]
      rw [e]
      exact q
  · by_cases qi : i = 0
    · by_cases qj : j = 0
      · rw [qi, qj]
      · simp only [if_neg qj] at hb; cases hb
    · simp only [if_neg qi] at ha; cases ha
  · by_cases qi : i = 0
    · simp only [if_pos qi, List.mem_singleton] at ha
      rw [ha]; exact del_same
    · simp only [if_neg qi] at ha; cases ha
/-- a def on data -/
theorem okD {x qual : Str} {st : Stmt} {f : Addr} {fd : FuncData} {N ps : List Str} {k : Nat} {g : List PyData → PyData → Prop} (F : Fun K x qual st f fd) (S : FnScope N ps (defScope st)) (len : ∀ ds z, g ds z → ds.length = ps.length)
    (hb : ∀ (cdv : Value) (A : Around) (outer : List Env) (s : Shared) (H : Hp) (E : XK), Room k (A.deeper (PyProof.Rows.envOfC qual (defScope st) s.heap.objs.size f cdv)) → ∀ ds z, g ds z →
      ∃ sl', Sv (cxOf CX0 P w K mg base N qual (defScope st) f cdv A outer s H E).nox (defBody st) (ds.map Sl.d ++ List.replicate (N.length - ds.length) Sl.x) (.ret sl' z)) : FnOk P w K mg base CX0 (k + 1) f fd ps (spD K g) := by
  refine F.ok S (fun vs H Q E h => ?_) (fun cdv A outer s H vs Q E hr h => ?_)
  · obtain ⟨G, ds, z, _, r, hg, _⟩ := h
    rw [dpAll_len r]; exact len ds z hg
  · obtain ⟨G, ds, z, sx, r, hg, q⟩ := h
    obtain ⟨sl', h'⟩ := hb cdv A outer s H E hr ds z hg
    exact ⟨_, pss_W, h' (en_start sx r) _ fun v σ G' H' E' g' r' => q v G' H' E'.gw r'⟩
/-- the same, the body ends without handing back -/
theorem okN {x qual : Str} {st : Stmt} {f : Addr} {fd : FuncData} {N ps : List Str} {k : Nat} {g : List PyData → PyData → Prop} (F : Fun K x qual st f fd) (S : FnScope N ps (defScope st)) (len : ∀ ds z, g ds z → ds.length = ps.length) (hz : ∀ ds z, g ds z → z = .none)
    (hb : ∀ (cdv : Value) (A : Around) (outer : List Env) (s : Shared) (H : Hp) (E : XK), Room k (A.deeper (PyProof.Rows.envOfC qual (defScope st) s.heap.objs.size f cdv)) → ∀ ds z, g ds z →
      ∃ sl', Sv (cxOf CX0 P w K mg base N qual (defScope st) f cdv A outer s H E).nox (defBody st) (ds.map Sl.d ++ List.replicate (N.length - ds.length) Sl.x) (.nx sl')) : FnOk P w K mg base CX0 (k + 1) f fd ps (spD K g) := by
  refine F.ok S (fun vs H Q E h => ?_) (fun cdv A outer s H vs Q E hr h => ?_)
  · obtain ⟨G, ds, z, _, r, hg, _⟩ := h
    rw [dpAll_len r]; exact len ds z hg
  · obtain ⟨G, ds, z, sx, r, hg, q⟩ := h
    obtain ⟨sl', h'⟩ := hb cdv A outer s H E hr ds z hg
    refine ⟨_, pss_W, h' (en_start sx r) _ fun σ G' H' E' g' => q .non G' H' E'.gw ?_⟩
    rw [hz ds z hg]; exact .non
/-- a def that changes the dict that is its first argument -/
theorem okS {x qual : Str} {st : Stmt} {f : Addr} {fd : FuncData} {N ps : List Str} {k : Nat} {g : List (Key × PyData) → List PyData → List (Key × PyData) → PyData → Prop} (F : Fun K x qual st f fd) (S : FnScope N ps (defScope st)) (len : ∀ kvs ds kvs' z, g kvs ds kvs' z → ds.length + 1 = ps.length)
    (hb : ∀ (cdv : Value) (A : Around) (outer : List Env) (s : Shared) (H : Hp) (E : XK), Room k (A.deeper (PyProof.Rows.envOfC qual (defScope st) s.heap.objs.size f cdv)) → ∀ p kvs ds kvs' z, g kvs ds kvs' z →
      ∃ sl', sl'[0]? = some (.dk (some p) kvs') ∧ Sv (cxOf CX0 P w K mg base N qual (defScope st) f cdv A outer s H E).nox (defBody st) (.dk (some p) kvs :: (ds.map Sl.d ++ List.replicate (N.length - (ds.length + 1)) Sl.x)) (.ret sl' z)) : FnOk P w K mg base CX0 (k + 1) f fd ps (spS K g) := by
  refine F.ok S (fun vs H Q E h => ?_) (fun cdv A outer s H vs Q E hr h => ?_)
  · obtain ⟨G, p, ws, ps', kvs, ds, kvs', z, rfl, _, _, _, _, r, hg, _⟩ := h
    rw [List.length_cons, dpAll_len r]; exact len kvs ds kvs' z hg
  · obtain ⟨G, p, ws, ps', kvs, ds, kvs', z, rfl, sx, gn, hp, hk, r, hg, q⟩ := h
    obtain ⟨sl', h0, h'⟩ := hb cdv A outer s H E hr p kvs ds kvs' z hg
    refine ⟨_, pss_W, h' (en_startS sx gn hp hk r) _ fun v σ G' H' E' g' r' => ?_⟩
    obtain ⟨a, ps2, hσ, eo, n2, _, ha, hk2⟩ := E'.getK h0
    have ea : a = p := (eo p rfl).symm
    subst ea
    exact q v G' H' ps2 g' E'.s (fun b u hb hu => E'.gw.h b u (by rw [del_ne hb]; exact hu)) (fun b u hb hu t n => E'.gw.m b u (by rw [del_ne hb]; exact hu) t n) n2 ha hk2 r'
end
end Ewl
-- DL5
set_option Elab.async false
set_option linter.all false
set_option maxRecDepth 100000
set_option maxHeartbeats 2000000
/-! Loops and comprehensions over data. -/
namespace Ewl
open PySem L2

/-- an iterator that yields these data, and stops -/
def Yl (K : PySem.W.Frag) (G : Hp) (J : It) (items : List PyData) : Prop := ∀ (i : Nat) (G1 H1 : Hp), Ex G G1 → Ex G1 H1 →
  (i < items.length → J.go i H1 ∧ ∀ x H2, J.yld i H1 x H2 → ∃ G2 d, items[i]? = some d ∧ Gw G1 H1 G2 H2 ∧ Dd K G2 x d) ∧ (i = items.length → J.stop i H1)
def WI (X : Cx) (tg iter : Expr) : TI := fun σ H R => ∀ pins s, L2.Inv X pins σ H s →
  wpAny (model X.prog X.w) X.A (eval iter X.env) (fun v s1 => wpAny (model X.prog X.w) X.A (pyIter v) (PIE X pins σ tg R) X.xe s1) X.xe s
theorem pi_W {X : Cx} {tg iter : Expr} : PI X tg iter (WI X tg iter) := ⟨fun pins s σ H R I h => h pins s I⟩
theorem WI.of {X : Cx} {tg iter : Expr} {t : TI} {σ : L2.St} {H : Hp} {R : It → Hp → Prop} (h : PI X tg iter t) (q : t σ H R) : WI X tg iter σ H R := fun pins s I => h.run pins s σ H R I q
structure EvI (X : Cx) (tg iter : Expr) (sl sl' : List Sl) (items : List PyData) : Prop where
  run : ∀ {G₀ H₀ G H : Hp} {σ : L2.St}, En X.K G₀ H₀ G H σ sl → ∀ R : It → Hp → Prop, (∀ J G' H', En X.K G₀ H₀ G' H' σ sl' → Ex G G' → Yl X.K G' J items → R J H') → WI X tg iter σ H R
instance {X : Cx} {tg iter : Expr} {sl sl' : List Sl} {items : List PyData} : CoeFun (EvI X tg iter sl sl' items) (fun _ => ∀ {G₀ H₀ G H : Hp} {σ : L2.St}, En X.K G₀ H₀ G H σ sl → ∀ R : It → Hp → Prop, (∀ J G' H', En X.K G₀ H₀ G' H' σ sl' → Ex G G' → Yl X.K G' J items → R J H') → WI X tg iter σ H R) := ⟨fun h => h.run⟩

theorem yl_list {K : PySem.W.Frag} {G : Hp} {a : Addr} {ds : List PyData} (h : Dd K G (.ref a) (.list ds)) : Yl K G (Itl K a) ds := by
  intro i G1 H1 e1 e2
  cases h with
  | lst s r =>
    have s1 := ex_l (e1.trans e2) s
    refine ⟨fun hi => ?_, fun hi => ⟨_, s1, by rw [dpAll_len r, hi]; exact Nat.le_refl _⟩⟩
    obtain ⟨v, h1, h2⟩ := dpAll_get r (show ds[i]? = some ds[i] by simp [hi])
    refine ⟨⟨_, v, s1, h1⟩, fun x H2 y => ?_⟩
    obtain ⟨rfl, y⟩ := y
    have e := y _ s1
    rw [h1] at e
    cases e
    exact ⟨G1, ds[i], by simp [hi], .refl e2, dp_mono e1 _ h2⟩
theorem yl_tup {K : PySem.W.Frag} {G : Hp} {a : Addr} {ds : List PyData} (h : Dd K G (.ref a) (.tuple ds)) : Yl K G (Itt K a) ds := by
  intro i G1 H1 e1 e2
  cases h with
  | tup s r =>
    have s1 : SqT K H1 a _ := SqT.of ((e1.trans e2) _ _ s)
    refine ⟨fun hi => ?_, fun hi => ⟨_, s1, by rw [dpAll_len r, hi]; exact Nat.le_refl _⟩⟩
    obtain ⟨v, h1, h2⟩ := dpAll_get r (show ds[i]? = some ds[i] by simp [hi])
    refine ⟨⟨_, v, s1, h1⟩, fun x H2 y => ?_⟩
    obtain ⟨rfl, y⟩ := y
    have e := y _ s1
    rw [h1] at e
    cases e
    exact ⟨G1, ds[i], by simp [hi], .refl e2, dp_mono e1 _ h2⟩
def rngD (lo : Int) (n : Nat) : List PyData := (List.range n).map fun i => .int (lo + (i : Nat))
theorem rngD_len {lo : Int} {n : Nat} : (rngD lo n).length = n := by simp [rngD]
theorem rngD_get {lo : Int} {n i : Nat} (h : i < n) : (rngD lo n)[i]? = some (.int (lo + (i : Nat))) := by simp [rngD, h]
theorem yl_rng {K : PySem.W.Frag} {G : Hp} {lo : Int} {n : Nat} : Yl K G (Itr lo n) (rngD lo n) := by
  intro i G1 H1 e1 e2
  rw [rngD_len]
  refine ⟨fun hi => ⟨hi, fun x H2 y => ?_⟩, fun hi => by rw [hi]; exact Nat.le_refl _⟩
  obtain ⟨rfl, rfl⟩ := y
  exact ⟨G1, _, rngD_get hi, .refl e2, .int _⟩
/-- pairs, made anew at each turn -/
def zipD (xs ys : List PyData) : List PyData := List.zipWith (fun x y => .tuple [x, y]) xs ys
def enumD (lo : Nat) (xs : List PyData) : List PyData := zipD (rngD lo xs.length) xs
theorem zipD_len {xs ys : List PyData} : (zipD xs ys).length = min xs.length ys.length := by simp [zipD]
theorem zipD_get {xs ys : List PyData} {i : Nat} {x y : PyData} (h1 : xs[i]? = some x) (h2 : ys[i]? = some y) : (zipD xs ys)[i]? = some (.tuple [x, y]) := by simp [zipD, List.getElem?_zipWith, h1, h2]

section
variable {X : Cx} {tg iter e c elt : Expr} {es : List Expr} {body : List Stmt} {s0 s1 s2 : List Sl} {d : PyData} {ds items : List PyData} {pos p : Pos}
theorem ei_list (h : Ev X e s0 s1 (.list ds)) : EvI X tg e s0 s1 ds := .mk fun E R q => WI.of (pi_list pe_W) (h E _ fun v G' H' E' g r => by
  cases r with
  | lst s a => exact ⟨_, rfl, ⟨_, ex_l E'.s s⟩, q _ G' H' E' g (yl_list (.lst s a))⟩)
theorem ei_tup (h : Ev X e s0 s1 (.tuple ds)) : EvI X tg e s0 s1 ds := .mk fun E R q => WI.of (pi_tup pe_W) (h E _ fun v G' H' E' g r => by
  cases r with
  | tup s a => exact ⟨_, rfl, ⟨_, SqT.of (E'.s _ _ s)⟩, q _ G' H' E' g (yl_tup (.tup s a))⟩)
theorem ei_rng1 {j : Int} (ha : EvA X [e] s0 s1 [.int j]) (hm : X.mg "range" = none) (hj : -(2 ^ 62) ≤ j ∧ j < 2 ^ 62) (hg : Gl X "range" := by rfl) (hs : starEach [e] X.env = [(false, eval e X.env)] := by rfl) : EvI X tg (.Call (.Name "range" p) [e] [] pos) s0 s1 (rngD 0 j.toNat) := .mk fun E R q =>
  WI.of (pi_range1 hg hm pa_W hs) (ha E _ fun vs G' H' E' g r => by
    cases r with
    | cons r1 r2 => cases r2; cases r1; exact ⟨j, rfl, hj.1, hj.2, q _ G' H' E' g yl_rng⟩)

/-! ### for -/
theorem st_for {S : Nat → List Sl} (h : EvI X tg iter s0 (S 0) items) (hs : ∀ i d, items[i]? = some d → ∃ m ts, Tg X tg (S i) d m ts ∧ Sv X body m (.nx (S (i + 1)))) (hc : X.calm = true := by rfl)
    (hp : PassesOwn (model X.prog X.w) X.A X.env X.xe := by exact PassesOwn.never) (hf : ∀ x, foldedSetIterable iter X.env x = pure x := by intro _; rfl) : St1 X (.For tg iter body [] pos) s0 (.nx (S items.length)) := .mk fun {G₀ H₀ G H σ} E D k => by
  refine WS.of (ps_for hp hc pi_W pg_W pss_W hf) (h E _ fun J G' H' E' g y => ?_)
  refine ⟨fun i m σ H => m = items.length - i ∧ i ≤ items.length ∧ ∃ G1, En X.K G₀ H₀ G1 H σ (S i) ∧ Ex G' G1, ⟨items.length, by simp, Nat.zero_le _, G', E', Ex.refl _⟩, ?_⟩
  rintro i m σ1 H1 ⟨rfl, hi, G1, E1, g1⟩
  by_cases hlt : i < items.length
  · obtain ⟨go, yd⟩ := (y i G1 H1 g1 E1.s).1 hlt
    refine .inr ⟨go, fun σ' H' => ∃ G1, En X.K G₀ H₀ G1 H' σ' (S (i + 1)) ∧ Ex G' G1, fun σ' H' ⟨G2, E2, g2⟩ => ⟨items.length - (i + 1), by omega, rfl, hlt, G2, E2, g2⟩, fun x H2 hy => ?_⟩
    obtain ⟨G2, d, hd, gw, r⟩ := yd x H2 hy
    obtain ⟨m, ts, ht, hb⟩ := hs i d hd
    refine ht (E1.grow gw) r _ fun σ' E2 _ _ => hb E2 _ fun σ3 G3 H3 E3 g3 => ⟨G3, E3, (g1.trans gw.g).trans g3⟩
  · have e : i = items.length := by omega
    subst e
    exact .inl ⟨(y _ G1 H1 g1 E1.s).2 rfl, k σ1 G1 H1 E1 (g.trans g1)⟩
/-- it hands back in turn i₀ -/
theorem st_forR {S : Nat → List Sl} {i₀ : Nat} {sl' : List Sl} (h : EvI X tg iter s0 (S 0) items) (hi₀ : i₀ < items.length) (hs : ∀ i d, i < i₀ → items[i]? = some d → ∃ m ts, Tg X tg (S i) d m ts ∧ Sv X body m (.nx (S (i + 1))))
    (hr : ∀ d, items[i₀]? = some d → ∃ m ts, Tg X tg (S i₀) d m ts ∧ Sv X body m (.ret sl' z)) (hc : X.calm = true := by rfl)
    (hp : PassesOwn (model X.prog X.w) X.A X.env X.xe := by exact PassesOwn.never) (hf : ∀ x, foldedSetIterable iter X.env x = pure x := by intro _; rfl) : St1 X (.For tg iter body [] pos) s0 (.ret sl' z) := .mk fun {G₀ H₀ G H σ} E D k => by
  refine WS.of (ps_for hp hc pi_W pg_W pss_W hf) (h E _ fun J G' H' E' g y => ?_)
  refine ⟨fun i m σ H => m = i₀ - i ∧ i ≤ i₀ ∧ ∃ G1, En X.K G₀ H₀ G1 H σ (S i) ∧ Ex G' G1, ⟨i₀, by simp, Nat.zero_le _, G', E', Ex.refl _⟩, ?_⟩
  rintro i m σ1 H1 ⟨rfl, hi, G1, E1, g1⟩
  obtain ⟨go, yd⟩ := (y i G1 H1 g1 E1.s).1 (by omega)
  by_cases hlt : i < i₀
  · refine .inr ⟨go, fun σ' H' => ∃ G1, En X.K G₀ H₀ G1 H' σ' (S (i + 1)) ∧ Ex G' G1, fun σ' H' ⟨G2, E2, g2⟩ => ⟨i₀ - (i + 1), by omega, rfl, hlt, G2, E2, g2⟩, fun x H2 hy => ?_⟩
    obtain ⟨G2, d, hd, gw, r⟩ := yd x H2 hy
    obtain ⟨m, ts, ht, hb⟩ := hs i d hlt hd
    refine ht (E1.grow gw) r _ fun σ' E2 _ _ => hb E2 _ fun σ3 G3 H3 E3 g3 => ⟨G3, E3, (g1.trans gw.g).trans g3⟩
  · have e : i = i₀ := by omega
    subst e
    refine .inr ⟨go, fun _ _ => False, fun _ _ z => z.elim, fun x H2 hy => ?_⟩
    obtain ⟨G2, d, hd, gw, r⟩ := yd x H2 hy
    obtain ⟨m, ts, ht, hb⟩ := hr d hd
    refine ht (E1.grow gw) r _ fun σ' E2 _ _ => hb E2 _ fun v σ3 G3 H3 E3 g3 r3 => k v σ3 G3 H3 E3 (((g.trans g1).trans gw.g).trans g3) r3

/-! ### while -/
theorem st_while {S M : Nat → List Sl} {n : Nat} (hs : ∀ i, i < n → EvT X c (S i) (M i) true ∧ Sv X body (M i) (.nx (S (i + 1)))) (he : EvT X c (S n) s1 false)
    (hp : PassesOwn (model X.prog X.w) X.A X.env X.xe := by exact PassesOwn.never) : St1 X (.While c body [] pos) (S 0) (.nx s1) := .mk fun {G₀ H₀ G H σ} E D k => by
  refine WS.of (ps_while hp pt_W pss_W) ?_
  refine ⟨fun m σ H => ∃ i, m = n - i ∧ i ≤ n ∧ ∃ G1, En X.K G₀ H₀ G1 H σ (S i) ∧ Ex G G1, ⟨n, 0, by simp, Nat.zero_le _, G, E, Ex.refl _⟩, ?_⟩
  rintro m σ1 H1 ⟨i, rfl, hi, G1, E1, g1⟩
  by_cases hlt : i < n
  · obtain ⟨h1, h2⟩ := hs i hlt
    refine h1 E1 _ fun G2 H2 E2 g2 => ?_
    rw [if_pos rfl]
    refine ⟨fun σ' H' => ∃ G1, En X.K G₀ H₀ G1 H' σ' (S (i + 1)) ∧ Ex G G1, fun σ' H' ⟨G3, E3, g3⟩ => ⟨n - (i + 1), by omega, i + 1, rfl, hlt, G3, E3, g3⟩, ?_⟩
    exact h2 E2 _ fun σ3 G3 H3 E3 g3 => ⟨G3, E3, (g1.trans g2).trans g3⟩
  · have e : i = n := by omega
    subst e
    refine he E1 _ fun G2 H2 E2 g2 => ?_
    rw [if_neg Bool.false_ne_true]
    exact k σ1 G2 H2 E2 (g1.trans g2)

/-! ### list comprehensions -/
def wipeS (sl : List Sl) : List Nat → List Sl
  | [] => sl
  | v :: vs => (wipeS sl vs).set v .x
theorem wipeS_len (sl : List Sl) : ∀ vs : List Nat, (wipeS sl vs).length = sl.length
  | [] => rfl
  | v :: vs => by unfold wipeS; rw [List.length_set, wipeS_len sl vs]
theorem wipeS_in (sl : List Sl) {i : Nat} : ∀ {vs : List Nat}, i ∈ vs → (wipeS sl vs)[i]? = some .x ∨ (wipeS sl vs)[i]? = none
  | [], h => by cases h
  | v :: vs, h => by
    unfold wipeS
    by_cases q : v = i
    · subst q
      by_cases hl : v < (wipeS sl vs).length
      · exact .inl (List.getElem?_set_self hl)
      · exact .inr (by rw [List.getElem?_eq_none_iff, List.length_set]; omega)
    · rw [List.getElem?_set_ne q]
      exact wipeS_in sl ((List.mem_cons.mp h).resolve_left (Ne.symm q))
theorem wipeS_out (sl : List Sl) {i : Nat} : ∀ {vs : List Nat}, i ∉ vs → (wipeS sl vs)[i]? = sl[i]?
  | [], _ => rfl
  | v :: vs, h => by
    unfold wipeS
    rw [List.getElem?_set_ne (fun e => h (by rw [e]; exact List.mem_cons_self))]
    exact wipeS_out sl fun m => h (List.mem_cons_of_mem _ m)
theorem wipe_in' {σ : L2.St} {i : Nat} : ∀ {vs : List Nat}, i ∈ vs → (wipe σ vs)[i]? = some none ∨ (wipe σ vs)[i]? = none
  | [], h => by cases h
  | v :: vs, h => by
    unfold wipe
    by_cases q : v = i
    · subst q
      by_cases hl : v < (wipe σ vs).length
      · exact .inl (List.getElem?_set_self hl)
      · exact .inr (by rw [List.getElem?_eq_none_iff, List.length_set]; omega)
    · rw [List.getElem?_set_ne q]
      exact wipe_in' ((List.mem_cons.mp h).resolve_left (Ne.symm q))
theorem wipe_eq {σ τ : L2.St} {vs : List Nat} (hl : σ.length = τ.length) (h : ∀ j : Nat, j ∉ vs → σ[j]? = τ[j]?) : wipe σ vs = wipe τ vs := by
  apply List.ext_getElem?
  intro j
  by_cases q : j ∈ vs
  · by_cases hj : j < σ.length
    · have n1 : (wipe σ vs)[j]? ≠ none := by rw [Ne, List.getElem?_eq_none_iff, wipe_length]; omega
      have n2 : (wipe τ vs)[j]? ≠ none := by rw [Ne, List.getElem?_eq_none_iff, wipe_length]; omega
      rw [(wipe_in' (σ := σ) q).resolve_right n1, (wipe_in' (σ := τ) q).resolve_right n2]
    · rw [List.getElem?_eq_none_iff.mpr (by rw [wipe_length]; omega), List.getElem?_eq_none_iff.mpr (by rw [wipe_length]; omega)]
  · rw [wipe_out q, wipe_out q]; exact h j q
theorem en_wipe {K : PySem.W.Frag} {G₀ H₀ G H : Hp} {σ : L2.St} {sl : List Sl} (E : En K G₀ H₀ G H σ sl) (vs : List Nat) : En K G₀ H₀ G H (wipe σ vs) (wipeS sl vs) :=
  E.forget (by rw [wipe_length, wipeS_len, E.len]) fun i => by
    by_cases q : i ∈ vs
    · rcases wipeS_in sl q with z | z
      · exact .inl z
      · exact .inr (.inl z)
    · exact .inr (.inr ⟨wipeS_out sl q, wipe_out q⟩)
theorem en_unwipe {K : PySem.W.Frag} {G₀ H₀ G H : Hp} {σ : L2.St} {sl : List Sl} {vs : List Nat} (E : En K G₀ H₀ G H (wipe σ vs) sl) : En K G₀ H₀ G H σ (wipeS sl vs) :=
  E.forget (by rw [wipeS_len, ← E.len, wipe_length]) fun i => by
    by_cases q : i ∈ vs
    · rcases wipeS_in sl q with z | z
      · exact .inl z
      · exact .inr (.inl z)
    · exact .inr (.inr ⟨wipeS_out sl q, (wipe_out q).symm⟩)
theorem wipeS_self {sl : List Sl} {vs : List Nat} (h : ∀ i ∈ vs, sl[i]? = some .x ∨ sl[i]? = none) : wipeS sl vs = sl := by
  apply List.ext_getElem?
  intro j
  by_cases q : j ∈ vs
  · have hl := wipeS_len sl vs
    rcases h j q with z | z
    · have : j < sl.length := (List.getElem?_eq_some_iff.mp z).1
      rcases wipeS_in sl q with w | w
      · rw [z, w]
      · rw [List.getElem?_eq_none_iff] at w; omega
    · rw [z, List.getElem?_eq_none_iff, hl]; exact List.getElem?_eq_none_iff.mp z
  · exact wipeS_out sl q
theorem wipeS_idem {sl : List Sl} {vs : List Nat} : wipeS (wipeS sl vs) vs = wipeS sl vs := wipeS_self fun _ hi => wipeS_in sl hi
end
end Ewl
-- DL6
set_option Elab.async false
set_option linter.all false
set_option maxRecDepth 100000
set_option maxHeartbeats 2000000
/-! List comprehensions over data. -/
namespace Ewl
open PySem L2
section
variable {X : Cx} {tg iter c elt : Expr} {s0 s1 s2 : List Sl} {items ys : List PyData} {pos : Pos} {scope : Scope} {own : List (Str × Nat)}
/-- the block's context -/
abbrev Blk (X : Cx) (scope : Scope) (s : Shared) (H : Hp) (C : Addr) (cl : List (Str × Addr)) (fp : List Addr) : Cx := X.blk s H scope (compEnvC scope cl C X.env) fp
def GB (X : Cx) (scope : Scope) (tg : Expr) : TG := fun v σ H Q => ∀ (s : Shared) (H0 : Hp) (C : Addr) (cl : List (Str × Addr)) (fp : List Addr), WG (Blk X scope s H0 C cl fp) tg v σ H Q
def EB (X : Cx) (scope : Scope) (elt : Expr) : TE := fun σ H Q => ∀ (s : Shared) (H0 : Hp) (C : Addr) (cl : List (Str × Addr)) (fp : List Addr), W (Blk X scope s H0 C cl fp) elt σ H Q
def TB (X : Cx) (scope : Scope) (c : Expr) : TT := fun σ H Q => ∀ (s : Shared) (H0 : Hp) (C : Addr) (cl : List (Str × Addr)) (fp : List Addr), WT (Blk X scope s H0 C cl fp) c σ H Q
theorem gb_ok {scope : Scope} {tg : Expr} (s : Shared) (H : Hp) (C : Addr) (cl : List (Str × Addr)) (fp : List Addr) : PG (Blk X scope s H C cl fp) tg (GB X scope tg) := ⟨fun pins s' σ H' v u Q I r h => h s H C cl fp pins s' u I r⟩
theorem eb_ok {scope : Scope} {elt : Expr} (s : Shared) (H : Hp) (C : Addr) (cl : List (Str × Addr)) (fp : List Addr) : PE (Blk X scope s H C cl fp) elt (EB X scope elt) := ⟨fun pins s' σ H' Q I h => h s H C cl fp pins s' I⟩
theorem tb_ok {scope : Scope} {c : Expr} (s : Shared) (H : Hp) (C : Addr) (cl : List (Str × Addr)) (fp : List Addr) : PT (Blk X scope s H C cl fp) c (TB X scope c) := ⟨fun pins s' σ H' Q I h => h s H C cl fp pins s' I⟩
theorem take_more {α : Type} {l : List α} {i : Nat} {x : α} (h : l[i]? = some x) : l.take (i + 1) = l.take i ++ [x] := by
  rw [List.take_add_one, h]; rfl
theorem lc_read {S : Nat → List Sl} (hi : EvI X tg iter s0 s1 items) (ok : BlkOk X.N X.env.scope scope own) (h0 : S 0 = wipeS s1 (own.map (·.2))) (hlen : ys.length = items.length) (hsz : items.length ≤ 100000)
    (turn : ∀ i d y, items[i]? = some d → ys[i]? = some y → ∃ m ts m', (∀ j ∈ ts, j ∈ own.map (·.2)) ∧ wipeS m' (own.map (·.2)) = S (i + 1) ∧
      ∀ (s : Shared) (H : Hp) (C : Addr) (cl : List (Str × Addr)) (fp : List Addr), Tg (Blk X scope s H C cl fp) tg (S i) d m ts ∧ Ev (Blk X scope s H C cl fp) elt m m' y)
    {G₀ H₀ G H : Hp} {σ : L2.St} (E : En X.K G₀ H₀ G H σ s0) (Q : VK) (q : ∀ a vs G' H', En X.K G₀ H₀ G' H' σ (S items.length) → Ex G G' → H' a = none → DdAll X.K G' vs ys → Q (.ref a) (L2.upd H' a (.lst vs))) :
    tLc (WI X tg iter) (GB X scope tg) tYes (EB X scope elt) (own.map (·.2)) σ H Q := by
  refine hi E _ fun J G' H' E' g y D hD => ?_
  have h0D : H₀ D = none := E'.gw.h.back hD
  have g0D : G₀ D = none := (E'.gw.g.trans E'.s).back hD
  refine ⟨fun i m H => m = items.length - i ∧ i ≤ items.length ∧ ∃ H1 G1 acc, H = L2.upd H1 D (.lst acc) ∧ H1 D = none ∧ En X.K G₀ H₀ G1 H1 (wipe σ (own.map (·.2))) (S i) ∧ Ex G' G1 ∧ DdAll X.K G1 acc (ys.take i),
    ⟨items.length, by simp, Nat.zero_le _, H', G', [], rfl, hD, by rw [h0]; exact en_wipe E' _, Ex.refl _, .nil⟩, ?_⟩
  rintro i m H3 ⟨rfl, hil, H1, G1, acc, rfl, hD1, E1, g1, ra⟩
  have E1k := E1.keep (o := .lst acc) hD1
  by_cases hlt : i < items.length
  · obtain ⟨go, yd⟩ := (y i G1 _ g1 E1k.s).1 hlt
    refine .inr ⟨go, fun H => ∃ H1 G1 acc, H = L2.upd H1 D (.lst acc) ∧ H1 D = none ∧ En X.K G₀ H₀ G1 H1 (wipe σ (own.map (·.2))) (S (i + 1)) ∧ Ex G' G1 ∧ DdAll X.K G1 acc (ys.take (i + 1)),
      fun H' p => ⟨items.length - (i + 1), by omega, rfl, hlt, p⟩, fun x H2 hy => ?_⟩
    obtain ⟨G2, d, hd, gw, r⟩ := yd x H2 hy
    have hyi : ys[i]? = some ys[i] := by simp [hlen, hlt]
    obtain ⟨m, ts, m', hts, hm', hb⟩ := turn i d ys[i] hd hyi
    intro s H0 C cl fp
    refine (hb s H0 C cl fp).1 (E1k.grow gw) r _ fun σ2 E3 hl2 hout => ⟨?_, ?_⟩
    · refine wipe_eq (by rw [hl2, wipe_length]) fun j hj => ?_
      rw [hout j fun z => hj (hts j z), wipe_out hj]
    · simp only [tYes, if_true]
      intro s' H0' C' cl' fp'
      refine (hb s' H0' C' cl' fp').2 E3 _ fun v G4 H4 E4 g4 r4 => ?_
      obtain ⟨H5, hD5, e5, E5⟩ := E4.unkeep h0D g0D
      have ha4 : H4 D = some (.lst acc) := by rw [e5]; exact upd_same
      refine ⟨acc, ha4, ?_, H5, G4, acc ++ [v], by rw [e5, upd_upd], hD5, ?_, (g1.trans gw.g).trans g4, ?_⟩
      · rw [dpAll_len ra, List.length_take]
        exact Nat.lt_of_le_of_lt (show min i ys.length ≤ 100000 by omega) (by decide)
      · have hw : wipe σ2 (own.map (·.2)) = wipe σ (own.map (·.2)) := wipe_eq (by rw [hl2, wipe_length]) fun j hj => by rw [hout j fun z => hj (hts j z), wipe_out hj]
        rw [← hw, ← hm']
        exact en_wipe E5 _
      · rw [take_more hyi]
        exact dpAll_app (dpAll_mono (gw.g.trans g4) _ ra) (dpAll_one r4)
  · have e : i = items.length := by omega
    subst e
    refine .inl ⟨(y _ G1 _ g1 E1k.s).2 rfl, ?_⟩
    have hw : wipeS (S items.length) (own.map (·.2)) = S items.length := by
      cases hn : items.length with
      | zero => rw [h0]; exact wipeS_idem
      | succ n =>
        have hn' : n < items.length := by omega
        obtain ⟨m, ts, m', _, hm', _⟩ := turn n items[n] ys[n] (by simp [hn']) (by simp [hlen, hn'])
        rw [← hm']; exact wipeS_idem
    refine q D acc G1 H1 ?_ (g.trans g1) hD1 (by rw [← hlen, List.take_length] at ra; exact ra)
    have := en_unwipe E1
    rw [hw] at this
    exact this
theorem el_lc {S : Nat → List Sl} (hi : EvI X tg iter s0 s1 items) (ok : BlkOk X.N X.env.scope scope own) (h0 : S 0 = wipeS s1 (own.map (·.2))) (hlen : ys.length = items.length) (hsz : items.length ≤ 100000)
    (turn : ∀ i d y, items[i]? = some d → ys[i]? = some y → ∃ m ts m', (∀ j ∈ ts, j ∈ own.map (·.2)) ∧ wipeS m' (own.map (·.2)) = S (i + 1) ∧
      ∀ (s : Shared) (H : Hp) (C : Addr) (cl : List (Str × Addr)) (fp : List Addr), Tg (Blk X scope s H C cl fp) tg (S i) d m ts ∧ Ev (Blk X scope s H C cl fp) elt m m' y)
    (hN : X.N.Nodup) (hc : X.calm = true := by rfl) (hs : ∀ x, foldedSetIterable iter X.env x = pure x := by intro _; rfl) : EvL X (.ListComp elt [⟨tg, iter, [], 0⟩] scope pos) s0 (S items.length) ys := .mk fun E Q q =>
  W.of (pe_lc hc hN pi_W ok gb_ok (fun _ _ _ _ _ => pts_nil) eb_ok hs) (lc_read hi ok h0 hlen hsz turn E Q q)
/-- y = [..] -/
theorem st_lc {S : Nat → List Sl} (hi : EvI X tg iter s0 s1 items) (ok : BlkOk X.N X.env.scope scope own) (h0 : S 0 = wipeS s1 (own.map (·.2))) (hlen : ys.length = items.length) (hsz : items.length ≤ 100000)
    (turn : ∀ i d y, items[i]? = some d → ys[i]? = some y → ∃ m ts m', (∀ j ∈ ts, j ∈ own.map (·.2)) ∧ wipeS m' (own.map (·.2)) = S (i + 1) ∧
      ∀ (s : Shared) (H : Hp) (C : Addr) (cl : List (Str × Addr)) (fp : List Addr), Tg (Blk X scope s H C cl fp) tg (S i) d m ts ∧ Ev (Blk X scope s H C cl fp) elt m m' y)
    {j : Nat} {y : Str} {py spos : Pos} (hN : X.N.Nodup) (hy : X.N[j]? = some y) (hlj : j < (S items.length).length) (hyl : X.env.scope.names.lookup y = some .local := by rfl)
    (hsw : swapsWith (.ListComp elt [⟨tg, iter, [], 0⟩] scope pos) (some (.Name y py)) spos.line X.env = pure true := by exact sw_true rfl rfl rfl (by decide +kernel)) (hc : X.calm = true := by rfl) (hs : ∀ x, foldedSetIterable iter X.env x = pure x := by intro _; rfl) :
    St1 X (.Assign [.Name y py] (.ListComp elt [⟨tg, iter, [], 0⟩] scope pos) spos) s0 (.nx ((S items.length).set j (.l ys))) := .mk fun E D k =>
  WS.of (ps_setLc hc hN hy hyl hsw pi_W ok gb_ok (fun _ _ _ _ _ => pts_nil) eb_ok hs) (lc_read hi ok h0 hlen hsz turn E _ fun a vs G' H' E' g ha r => k _ G' _ (E'.setL hlj ha r) g)
/-- with an if: zs tells what is kept -/
theorem lc_readIf {S : Nat → List Sl} {zs : List (Option PyData)} (hi : EvI X tg iter s0 s1 items) (ok : BlkOk X.N X.env.scope scope own) (h0 : S 0 = wipeS s1 (own.map (·.2))) (hlen : zs.length = items.length) (hsz : items.length ≤ 100000)
    (turn : ∀ i d z, items[i]? = some d → zs[i]? = some z → ∃ m ts m1 m', (∀ j ∈ ts, j ∈ own.map (·.2)) ∧ wipeS m' (own.map (·.2)) = S (i + 1) ∧
      ∀ (s : Shared) (H : Hp) (C : Addr) (cl : List (Str × Addr)) (fp : List Addr), Tg (Blk X scope s H C cl fp) tg (S i) d m ts ∧ EvT (Blk X scope s H C cl fp) c m m1 z.isSome ∧ (∀ y, z = some y → Ev (Blk X scope s H C cl fp) elt m1 m' y) ∧ (z = none → m1 = m'))
    {G₀ H₀ G H : Hp} {σ : L2.St} (E : En X.K G₀ H₀ G H σ s0) (Q : VK) (q : ∀ a vs G' H', En X.K G₀ H₀ G' H' σ (S items.length) → Ex G G' → H' a = none → DdAll X.K G' vs (zs.filterMap id) → Q (.ref a) (L2.upd H' a (.lst vs))) :
    tLc (WI X tg iter) (GB X scope tg) (TB X scope c) (EB X scope elt) (own.map (·.2)) σ H Q := by
  refine hi E _ fun J G' H' E' g y D hD => ?_
  have h0D : H₀ D = none := E'.gw.h.back hD
  have g0D : G₀ D = none := (E'.gw.g.trans E'.s).back hD
  refine ⟨fun i m H => m = items.length - i ∧ i ≤ items.length ∧ ∃ H1 G1 acc, H = L2.upd H1 D (.lst acc) ∧ H1 D = none ∧ En X.K G₀ H₀ G1 H1 (wipe σ (own.map (·.2))) (S i) ∧ Ex G' G1 ∧ DdAll X.K G1 acc ((zs.take i).filterMap id),
    ⟨items.length, by simp, Nat.zero_le _, H', G', [], rfl, hD, by rw [h0]; exact en_wipe E' _, Ex.refl _, .nil⟩, ?_⟩
  rintro i m H3 ⟨rfl, hil, H1, G1, acc, rfl, hD1, E1, g1, ra⟩
  have E1k := E1.keep (o := .lst acc) hD1
  by_cases hlt : i < items.length
  · obtain ⟨go, yd⟩ := (y i G1 _ g1 E1k.s).1 hlt
    refine .inr ⟨go, fun H => ∃ H1 G1 acc, H = L2.upd H1 D (.lst acc) ∧ H1 D = none ∧ En X.K G₀ H₀ G1 H1 (wipe σ (own.map (·.2))) (S (i + 1)) ∧ Ex G' G1 ∧ DdAll X.K G1 acc ((zs.take (i + 1)).filterMap id),
      fun H' p => ⟨items.length - (i + 1), by omega, rfl, hlt, p⟩, fun x H2 hy => ?_⟩
    obtain ⟨G2, d, hd, gw, r⟩ := yd x H2 hy
    have hzi : zs[i]? = some zs[i] := by simp [hlen, hlt]
    obtain ⟨m, ts, m1, m', hts, hm', hb⟩ := turn i d zs[i] hd hzi
    intro s H0 C cl fp
    refine (hb s H0 C cl fp).1 (E1k.grow gw) r _ fun σ2 E3 hl2 hout => ?_
    have hw : wipe σ2 (own.map (·.2)) = wipe σ (own.map (·.2)) := wipe_eq (by rw [hl2, wipe_length]) fun j hj => by rw [hout j fun z => hj (hts j z), wipe_out hj]
    refine ⟨hw, ?_⟩
    intro s1' H01 C1 cl1 fp1
    refine (hb s1' H01 C1 cl1 fp1).2.1 E3 _ fun G4 H4 E4 g4 => ?_
    cases hz : zs[i] with
    | none =>
      simp only [Option.isSome_none, Bool.false_eq_true, if_false]
      have em : m1 = m' := (hb s H0 C cl fp).2.2.2 hz
      subst em
      obtain ⟨H5, hD5, e5, E5⟩ := E4.unkeep h0D g0D
      refine ⟨H5, G4, acc, e5, hD5, ?_, (g1.trans gw.g).trans g4, ?_⟩
      · rw [← hw, ← hm']
        exact en_wipe E5 _
      · rw [take_more hzi, hz, List.filterMap_append]
        simp only [List.filterMap_cons, id, List.filterMap_nil, List.append_nil]
        exact dpAll_mono (gw.g.trans g4) _ ra
    | some yv =>
      simp only [Option.isSome_some, if_true]
      intro s' H0' C' cl' fp'
      refine (hb s' H0' C' cl' fp').2.2.1 yv hz E4 _ fun v G6 H6 E6 g6 r6 => ?_
      obtain ⟨H5, hD5, e5, E5⟩ := E6.unkeep h0D g0D
      have ha4 : H6 D = some (.lst acc) := by rw [e5]; exact upd_same
      refine ⟨acc, ha4, ?_, H5, G6, acc ++ [v], by rw [e5, upd_upd], hD5, ?_, ((g1.trans gw.g).trans g4).trans g6, ?_⟩
      · rw [dpAll_len ra]
        have := List.length_filterMap_le id (zs.take i)
        rw [List.length_take] at this
        exact Nat.lt_of_le_of_lt (show _ ≤ 100000 by omega) (by decide)
      · rw [← hw, ← hm']
        exact en_wipe E5 _
      · rw [take_more hzi, hz, List.filterMap_append]
        simp only [List.filterMap_cons, id, List.filterMap_nil]
        exact dpAll_app (dpAll_mono ((gw.g.trans g4).trans g6) _ ra) (dpAll_one r6)
  · have e : i = items.length := by omega
    subst e
    refine .inl ⟨(y _ G1 _ g1 E1k.s).2 rfl, ?_⟩
    have hw : wipeS (S items.length) (own.map (·.2)) = S items.length := by
      cases hn : items.length with
      | zero => rw [h0]; exact wipeS_idem
      | succ n =>
        have hn' : n < items.length := by omega
        obtain ⟨m, ts, m1, m', _, hm', _⟩ := turn n items[n] zs[n] (by simp [hn']) (by simp [hlen, hn'])
        rw [← hm']; exact wipeS_idem
    refine q D acc G1 H1 ?_ (g.trans g1) hD1 (by rw [← hlen, List.take_length] at ra; exact ra)
    have := en_unwipe E1
    rw [hw] at this
    exact this
theorem el_lcIf {S : Nat → List Sl} {zs : List (Option PyData)} (hi : EvI X tg iter s0 s1 items) (ok : BlkOk X.N X.env.scope scope own) (h0 : S 0 = wipeS s1 (own.map (·.2))) (hlen : zs.length = items.length) (hsz : items.length ≤ 100000)
    (turn : ∀ i d z, items[i]? = some d → zs[i]? = some z → ∃ m ts m1 m', (∀ j ∈ ts, j ∈ own.map (·.2)) ∧ wipeS m' (own.map (·.2)) = S (i + 1) ∧
      ∀ (s : Shared) (H : Hp) (C : Addr) (cl : List (Str × Addr)) (fp : List Addr), Tg (Blk X scope s H C cl fp) tg (S i) d m ts ∧ EvT (Blk X scope s H C cl fp) c m m1 z.isSome ∧ (∀ y, z = some y → Ev (Blk X scope s H C cl fp) elt m1 m' y) ∧ (z = none → m1 = m'))
    (hN : X.N.Nodup) (hc : X.calm = true := by rfl) (hs : ∀ x, foldedSetIterable iter X.env x = pure x := by intro _; rfl) : EvL X (.ListComp elt [⟨tg, iter, [c], 0⟩] scope pos) s0 (S items.length) (zs.filterMap id) := .mk fun E Q q =>
  W.of (pe_lc hc hN pi_W ok gb_ok (fun s H C cl fp => pts_one (tb_ok s H C cl fp)) eb_ok hs) (lc_readIf hi ok h0 hlen hsz turn E Q q)
/-- y = [.. if ..] -/
theorem st_lcIf {S : Nat → List Sl} {zs : List (Option PyData)} (hi : EvI X tg iter s0 s1 items) (ok : BlkOk X.N X.env.scope scope own) (h0 : S 0 = wipeS s1 (own.map (·.2))) (hlen : zs.length = items.length) (hsz : items.length ≤ 100000)
    (turn : ∀ i d z, items[i]? = some d → zs[i]? = some z → ∃ m ts m1 m', (∀ j ∈ ts, j ∈ own.map (·.2)) ∧ wipeS m' (own.map (·.2)) = S (i + 1) ∧
      ∀ (s : Shared) (H : Hp) (C : Addr) (cl : List (Str × Addr)) (fp : List Addr), Tg (Blk X scope s H C cl fp) tg (S i) d m ts ∧ EvT (Blk X scope s H C cl fp) c m m1 z.isSome ∧ (∀ y, z = some y → Ev (Blk X scope s H C cl fp) elt m1 m' y) ∧ (z = none → m1 = m'))
    {j : Nat} {y : Str} {py spos : Pos} (hN : X.N.Nodup) (hy : X.N[j]? = some y) (hlj : j < (S items.length).length) (hyl : X.env.scope.names.lookup y = some .local := by rfl)
    (hsw : swapsWith (.ListComp elt [⟨tg, iter, [c], 0⟩] scope pos) (some (.Name y py)) spos.line X.env = pure true := by exact sw_true rfl rfl rfl (by decide +kernel)) (hc : X.calm = true := by rfl) (hs : ∀ x, foldedSetIterable iter X.env x = pure x := by intro _; rfl) :
    St1 X (.Assign [.Name y py] (.ListComp elt [⟨tg, iter, [c], 0⟩] scope pos) spos) s0 (.nx ((S items.length).set j (.l (zs.filterMap id)))) := .mk fun E D k =>
  WS.of (ps_setLc hc hN hy hyl hsw pi_W ok gb_ok (fun s H C cl fp => pts_one (tb_ok s H C cl fp)) eb_ok hs) (lc_readIf hi ok h0 hlen hsz turn E _ fun a vs G' H' E' g ha r => k _ G' _ (E'.setL hlj ha r) g)
end
end Ewl
-- DL7
set_option Elab.async false
set_option linter.all false
set_option maxRecDepth 100000
set_option maxHeartbeats 2000000
/-! Comprehensions of two clauses. -/
namespace Ewl
open PySem L2
theorem wipe_wipe {σ τ : L2.St} {vs ws : List Nat} (hv : ∀ i ∈ vs, i ∈ ws) (hl : σ.length = τ.length) (h : ∀ j : Nat, j ∉ ws → σ[j]? = τ[j]?) : wipe (wipe σ vs) ws = wipe τ ws :=
  wipe_eq (by rw [wipe_length, hl]) fun j hj => by rw [wipe_out fun z => hj (hv j z)]; exact h j hj
theorem wipeS_wipeS {sl : List Sl} {vs ws : List Nat} (hv : ∀ i ∈ vs, i ∈ ws) : wipeS (wipeS sl vs) ws = wipeS sl ws := by
  apply List.ext_getElem?
  intro j
  by_cases q : j ∈ ws
  · by_cases hj : j < sl.length
    · have n1 : (wipeS (wipeS sl vs) ws)[j]? ≠ none := by rw [Ne, List.getElem?_eq_none_iff, wipeS_len, wipeS_len]; omega
      have n2 : (wipeS sl ws)[j]? ≠ none := by rw [Ne, List.getElem?_eq_none_iff, wipeS_len]; omega
      rw [(wipeS_in _ q).resolve_right n1, (wipeS_in _ q).resolve_right n2]
    · rw [List.getElem?_eq_none_iff.mpr (by rw [wipeS_len, wipeS_len]; omega), List.getElem?_eq_none_iff.mpr (by rw [wipeS_len]; omega)]
  · rw [wipeS_out _ q, wipeS_out _ q, wipeS_out _ fun z => q (hv j z)]
section
variable {X : Cx} {tg iter tg1 iter1 elt : Expr} {s0 s1 : List Sl} {items : List PyData} {pos : Pos} {scope : Scope} {own : List (Str × Nat)} {vs1 : List Nat}
theorem el_lc2 {yss : List (List PyData)} (hi : EvI X tg iter s0 s1 items) (ok : BlkOk X.N X.env.scope scope own) (hv : ∀ i ∈ vs1, i ∈ own.map (·.2)) (hlen : yss.length = items.length) (hsz : yss.flatten.length ≤ 100000)
    (turn : ∀ (i : Nat) (d : PyData) (ys : List PyData), items[i]? = some d → yss[i]? = some ys → ∃ (m : List Sl) (ts : List Nat) (m1 : List Sl) (items1 : List PyData) (M : Nat → List Sl) (ts1 : List Nat), (∀ j ∈ ts, j ∈ own.map (·.2)) ∧ (∀ j ∈ ts1, j ∈ vs1) ∧ wipeS m1 (own.map (·.2)) = wipeS s1 (own.map (·.2)) ∧
      (∀ j, wipeS (M j) vs1 = wipeS m1 vs1) ∧ ys.length = items1.length ∧
      ∀ (s : Shared) (H : Hp) (C : Addr) (cl : List (Str × Addr)) (fp : List Addr), Tg (Blk X scope s H C cl fp) tg (wipeS s1 (own.map (·.2))) d m ts ∧ EvI (Blk X scope s H C cl fp) tg1 iter1 m m1 items1 ∧
        ∀ (j : Nat) (d1 y : PyData), items1[j]? = some d1 → ys[j]? = some y → Tg (Blk X scope s H C cl fp) tg1 (wipeS m1 vs1) d1 (M j) ts1 ∧ Ev (Blk X scope s H C cl fp) elt (M j) (M j) y)
    (hN : X.N.Nodup) (hc : X.calm = true := by rfl) (hs : ∀ x, foldedSetIterable iter X.env x = pure x := by intro _; rfl) (hs1 : ∀ env x, foldedSetIterable iter1 env x = pure x := by intro _ _; rfl) :
    EvL X (.ListComp elt [⟨tg, iter, [], 0⟩, ⟨tg1, iter1, [], 0⟩] scope pos) s0 (wipeS s1 (own.map (·.2))) yss.flatten := .mk fun {G₀ H₀ G H σ} E Q q => by
  refine W.of (pe_lc2 (vs1 := vs1) (g := fun v σ H Q => ∀ (s : Shared) (H0 : Hp) (C : Addr) (cl : List (Str × Addr)) (fp : List Addr), WG (Blk X scope s H0 C cl fp) tg v σ H Q)
    (g1 := fun v σ H Q => ∀ (s : Shared) (H0 : Hp) (C : Addr) (cl : List (Str × Addr)) (fp : List Addr), WG (Blk X scope s H0 C cl fp) tg1 v σ H Q)
    (wi1 := fun σ H Q => ∀ (s : Shared) (H0 : Hp) (C : Addr) (cl : List (Str × Addr)) (fp : List Addr), WI (Blk X scope s H0 C cl fp) tg1 iter1 σ H Q)
    (te := fun σ H Q => ∀ (s : Shared) (H0 : Hp) (C : Addr) (cl : List (Str × Addr)) (fp : List Addr), W (Blk X scope s H0 C cl fp) elt σ H Q) (tt := tYes) (tt1 := tYes) hc hN pi_W ok hv
    (fun s H C cl fp => ⟨fun pins s' σ H' v u Q I r h => h s H C cl fp pins s' u I r⟩) (fun s H C cl fp => pts_nil)
    (fun s H C cl fp => ⟨fun pins s' σ H' R I h => h s H C cl fp pins s' I⟩) (fun s H C cl fp => ⟨fun pins s' σ H' v u Q I r h => h s H C cl fp pins s' u I r⟩) (fun s H C cl fp => pts_nil)
    (fun s H C cl fp => ⟨fun pins s' σ H' Q I h => h s H C cl fp pins s' I⟩) hs hs1) ?_
  refine hi E _ fun J G' H' E' g y D hD => ?_
  have h0D : H₀ D = none := E'.gw.h.back hD
  have g0D : G₀ D = none := (E'.gw.g.trans E'.s).back hD
  refine ⟨fun i m H => m = items.length - i ∧ i ≤ items.length ∧ ∃ H1 G1 acc, H = L2.upd H1 D (.lst acc) ∧ H1 D = none ∧ En X.K G₀ H₀ G1 H1 (wipe σ (own.map (·.2))) (wipeS s1 (own.map (·.2))) ∧ Ex G' G1 ∧ DdAll X.K G1 acc (yss.take i).flatten,
    ⟨items.length, by simp, Nat.zero_le _, H', G', [], rfl, hD, en_wipe E' _, Ex.refl _, .nil⟩, ?_⟩
  rintro i m H3 ⟨rfl, hil, H1, G1, acc, rfl, hD1, E1, g1, ra⟩
  have E1k := E1.keep (o := .lst acc) hD1
  by_cases hlt : i < items.length
  · obtain ⟨go, yd⟩ := (y i G1 _ g1 E1k.s).1 hlt
    refine .inr ⟨go, fun H => ∃ H1 G1 acc, H = L2.upd H1 D (.lst acc) ∧ H1 D = none ∧ En X.K G₀ H₀ G1 H1 (wipe σ (own.map (·.2))) (wipeS s1 (own.map (·.2))) ∧ Ex G' G1 ∧ DdAll X.K G1 acc (yss.take (i + 1)).flatten,
      fun H' p => ⟨items.length - (i + 1), by omega, rfl, hlt, p⟩, fun x H2 hy => ?_⟩
    obtain ⟨G2, d, hd, gw, r⟩ := yd x H2 hy
    have hyi : yss[i]? = some yss[i] := by simp [hlen, hlt]
    obtain ⟨m, ts, m1, items1, M, ts1, hts, hts1, hm1, hM, hl1, hb⟩ := turn i d yss[i] hd hyi
    have hfl : (yss.take (i + 1)).flatten = (yss.take i).flatten ++ yss[i] := by rw [take_more hyi, List.flatten_append]; simp
    intro s H0 C cl fp
    refine (hb s H0 C cl fp).1 (E1k.grow gw) r _ fun σ2 E3 hl2 hout => ?_
    have hw : wipe σ2 (own.map (·.2)) = wipe σ (own.map (·.2)) := wipe_eq (by rw [hl2, wipe_length]) fun j hj => by rw [hout j fun z => hj (hts j z), wipe_out hj]
    refine ⟨hw, ?_⟩
    simp only [tYes, if_true]
    intro s1' H01 C1 cl1 fp1
    refine (hb s1' H01 C1 cl1 fp1).2.1 E3 _ fun J1 G4 H4 E4 g4 y1 => ?_
    obtain ⟨H5, hD5, e5, E5⟩ := E4.unkeep h0D g0D
    refine ⟨fun j k H => k = items1.length - j ∧ j ≤ items1.length ∧ ∃ H1 G1 acc, H = L2.upd H1 D (.lst acc) ∧ H1 D = none ∧ En X.K G₀ H₀ G1 H1 (wipe σ2 vs1) (wipeS m1 vs1) ∧ Ex G4 G1 ∧ DdAll X.K G1 acc ((yss.take i).flatten ++ (yss[i]).take j),
      ⟨items1.length, by simp, Nat.zero_le _, H5, G4, acc, e5, hD5, en_wipe E5 _, Ex.refl _, by simpa using dpAll_mono (gw.g.trans g4) _ ra⟩, ?_⟩
    rintro j k H6 ⟨rfl, hjl, H7, G7, acc7, rfl, hD7, E7, g7, ra7⟩
    have E7k := E7.keep (o := .lst acc7) hD7
    by_cases hjt : j < items1.length
    · obtain ⟨go1, yd1⟩ := (y1 j G7 _ g7 E7k.s).1 hjt
      refine .inr ⟨go1, fun H => ∃ H1 G1 acc, H = L2.upd H1 D (.lst acc) ∧ H1 D = none ∧ En X.K G₀ H₀ G1 H1 (wipe σ2 vs1) (wipeS m1 vs1) ∧ Ex G4 G1 ∧ DdAll X.K G1 acc ((yss.take i).flatten ++ (yss[i]).take (j + 1)),
        fun H' p => ⟨items1.length - (j + 1), by omega, rfl, hjt, p⟩, fun x1 H8 hy1 => ?_⟩
      obtain ⟨G8, d1, hd1, gw8, r8⟩ := yd1 x1 H8 hy1
      have hyj : (yss[i])[j]? = some (yss[i])[j] := by simp [hl1, hjt]
      intro s2 H02 C2 cl2 fp2
      refine ((hb s2 H02 C2 cl2 fp2).2.2 j d1 _ hd1 hyj).1 (E7k.grow gw8) r8 _ fun σ3 E9 hl3 hout3 => ?_
      have hw3 : wipe σ3 vs1 = wipe σ2 vs1 := wipe_eq (by rw [hl3, wipe_length]) fun j' hj' => by rw [hout3 j' fun z => hj' (hts1 j' z), wipe_out hj']
      refine ⟨hw3, ?_⟩
      intro s' H0' C' cl' fp'
      refine ((hb s' H0' C' cl' fp').2.2 j d1 _ hd1 hyj).2 E9 _ fun v G10 H10 E10 g10 r10 => ?_
      obtain ⟨H11, hD11, e11, E11⟩ := E10.unkeep h0D g0D
      have ha : H10 D = some (.lst acc7) := by rw [e11]; exact upd_same
      refine ⟨acc7, ha, ?_, H11, G10, acc7 ++ [v], by rw [e11, upd_upd], hD11, ?_, (g7.trans gw8.g).trans g10, ?_⟩
      · rw [dpAll_len ra7]
        have h1 : ((yss.take i).flatten ++ (yss[i]).take j).length ≤ yss.flatten.length := by
          have h2 : yss.flatten = (yss.take i).flatten ++ (yss[i] ++ (yss.drop (i + 1)).flatten) := by
            have h3 : yss = yss.take i ++ yss[i] :: yss.drop (i + 1) := by simp
            conv => lhs; rw [h3]
            rw [List.flatten_append, List.flatten_cons]
          rw [h2, List.length_append, List.length_append, List.length_append, List.length_take]
          omega
        exact Nat.lt_of_le_of_lt (Nat.le_trans h1 hsz) (by decide)
      · rw [← hw3, ← hM j]
        exact en_wipe E11 _
      · rw [take_more hyj, ← List.append_assoc]
        exact dpAll_app (dpAll_mono (gw8.g.trans g10) _ ra7) (dpAll_one r10)
    · have e : j = items1.length := by omega
      subst e
      refine .inl ⟨(y1 _ G7 _ g7 E7k.s).2 rfl, H7, G7, acc7, rfl, hD7, ?_, ((g1.trans gw.g).trans g4).trans g7, ?_⟩
      · have h1 := en_wipe E7 (own.map (·.2))
        rw [wipeS_wipeS hv, hm1] at h1
        have h2 : wipe (wipe σ2 vs1) (own.map (·.2)) = wipe σ (own.map (·.2)) := wipe_wipe hv (by rw [hl2, wipe_length]) fun j hj => by rw [hout j fun z => hj (hts j z), wipe_out hj]
        rw [h2] at h1
        exact h1
      · rw [hfl]
        rw [← hl1, List.take_length] at ra7
        exact ra7
  · have e : i = items.length := by omega
    subst e
    refine .inl ⟨(y _ G1 _ g1 E1k.s).2 rfl, ?_⟩
    refine q D acc G1 H1 ?_ (g.trans g1) hD1 (by rw [← hlen, List.take_length] at ra; exact ra)
    have := en_unwipe E1
    rw [wipeS_idem] at this
    exact this
end
end Ewl
-- DL8
set_option Elab.async false
set_option linter.all false
set_option maxRecDepth 100000
set_option maxHeartbeats 2000000
/-! Operations over data. -/
namespace Ewl
open PySem L2
mutual
theorem noDict_of_alike : ∀ d : PyData, PySem.W.alike d d = true → d.hasDict = false
  | .none, _ => by simp only [PyData.hasDict]
  | .bool _, _ => by simp only [PyData.hasDict]
  | .int _, _ => by simp only [PyData.hasDict]
  | .str _, _ => by simp only [PyData.hasDict]
  | .list xs, h => by rw [PyData.hasDict]; exact noDictAll_of_alike xs (by simpa only [PySem.W.alike] using h)
  | .tuple xs, h => by rw [PyData.hasDict]; exact noDictAll_of_alike xs (by simpa only [PySem.W.alike] using h)
  | .dict _, h => by simp [PySem.W.alike] at h
theorem noDictAll_of_alike : ∀ ds : List PyData, PySem.W.alikeAll ds ds = true → PyData.hasDictAll ds = false
  | [], _ => by simp only [PyData.hasDictAll]
  | d :: ds, h => by
    obtain ⟨h1, h2⟩ := PySem.W.alike_all_cons h
    rw [PyData.hasDictAll, noDict_of_alike d h1, noDictAll_of_alike ds h2]; rfl
end
section
variable {K : PySem.W.Frag} {i j : Int}
theorem rd_int {g : Int → Int → Int} : RD K (rI0 fun i j => .int (g i j)) (.int i) (.int j) (.int (g i j)) := .mk fun {G H v w} s a b Q q => by
  cases a; cases b; exact ⟨i, j, rfl, rfl, q _ G H (.refl s) (.int _)⟩
theorem rd_intC {C : Int → Int → Prop} {g : Int → Int → Int} (h : C i j) : RD K (rI C fun i j => .int (g i j)) (.int i) (.int j) (.int (g i j)) := .mk fun {G H v w} s a b Q q => by
  cases a; cases b; exact ⟨i, j, rfl, rfl, h, q _ G H (.refl s) (.int _)⟩
theorem rd_bool {g : Int → Int → Bool} : RD K (rI0 fun i j => .bl (g i j)) (.int i) (.int j) (.bool (g i j)) := .mk fun {G H v w} s a b Q q => by
  cases a; cases b; exact ⟨i, j, rfl, rfl, q _ G H (.refl s) (.bl _)⟩
theorem ru_int {g : Int → Int} : RU K (rU fun i => .int (g i)) (.int i) (.int (g i)) := .mk fun {G H v} s a Q q => by
  cases a; exact ⟨i, rfl, q _ G H (.refl s) (.int _)⟩
theorem rd_eqD {d e : PyData} (h1 : SeqAt.shaped d = true) (h2 : SeqAt.shaped e = true) : RD K (rEqD K) d e (.bool (PyData.eqv d e)) := .mk fun {G H v w} s a b Q q =>
  ⟨d, e, dd_dp d (PyData.hasDict_of_canLay _ (SeqAt.canLay_of_shaped h1)) (dp_mono s d a), dd_dp e (PyData.hasDict_of_canLay _ (SeqAt.canLay_of_shaped h2)) (dp_mono s e b), h1, h2, q _ G H (.refl s) (.bl _)⟩
theorem rd_neD {d e : PyData} (h1 : SeqAt.shaped d = true) (h2 : SeqAt.shaped e = true) : RD K (rNeD K) d e (.bool (!PyData.eqv d e)) := .mk fun {G H v w} s a b Q q =>
  ⟨d, e, dd_dp d (PyData.hasDict_of_canLay _ (SeqAt.canLay_of_shaped h1)) (dp_mono s d a), dd_dp e (PyData.hasDict_of_canLay _ (SeqAt.canLay_of_shaped h2)) (dp_mono s e b), h1, h2, q _ G H (.refl s) (.bl _)⟩
def isNone : PyData → Bool
  | .none => true
  | _ => false
theorem dp_isN {G : Hp} {v : V} : ∀ {d : PyData}, Dd K G v d → decide (v = V.non) = isNone d
  | .none, h => by cases h; rfl
  | .bool _, h => by cases h; rfl
  | .int _, h => by cases h; rfl
  | .str _, h => by cases h; rfl
  | .list _, h => by cases h; rfl
  | .tuple _, h => by cases h; rfl
  | .dict _, h => by cases h <;> rfl
theorem rd_isN {d : PyData} : RD K (fun x y H Q => y = .non ∧ Q (.bl (decide (x = .non))) H) d .none (.bool (isNone d)) := .mk fun {G H v w} s a b Q q => by
  cases b; exact ⟨rfl, q _ G H (.refl s) (by rw [dp_isN a]; exact .bl _)⟩
theorem rd_notN {d : PyData} : RD K (fun x y H Q => y = .non ∧ Q (.bl (!decide (x = .non))) H) d .none (.bool (!isNone d)) := .mk fun {G H v w} s a b Q q => by
  cases b; exact ⟨rfl, q _ G H (.refl s) (by rw [dp_isN a]; exact .bl _)⟩
theorem atI_dp {G : Hp} {vs : List V} {ds : List PyData} {d : PyData} (h : DdAll K G vs ds) (e : atI ds i = some d) : ∃ v, atI vs i = some v ∧ Dd K G v d := by
  unfold atI at e ⊢
  rw [dpAll_len h]
  cases q : ixN ds.length i with
  | none => rw [q] at e; cases e
  | some k =>
    rw [q] at e
    exact dpAll_get h e
theorem rd_ixL {ds : List PyData} {d : PyData} (h : atI ds i = some d) : RD K (rIxL K) (.list ds) (.int i) d := .mk fun {G H v w} s a b Q q => by
  cases b
  cases a with
  | lst sl r =>
    obtain ⟨v, e, rv⟩ := atI_dp r h
    exact ⟨_, _, i, v, rfl, rfl, ex_l s sl, e, q v G H (.refl s) rv⟩
theorem rd_ixT {ds : List PyData} {d : PyData} (h : atI ds i = some d) : RD K (rIxT K) (.tuple ds) (.int i) d := .mk fun {G H v w} s a b Q q => by
  cases b
  cases a with
  | tup sl r =>
    obtain ⟨v, e, rv⟩ := atI_dp r h
    exact ⟨_, _, i, v, rfl, rfl, SqT.of (s _ _ sl), e, q v G H (.refl s) rv⟩
theorem at_nat {α : Type} {xs : List α} {n : Nat} {v : α} (h : xs[n]? = some v) : atI xs (n : Int) = some v := atI_nat h
end

section
variable {X : Cx}
/-! ### calls -/
theorem rc_lenL {ds : List PyData} : RC X.K (fun xs H Q => ∃ p ys, xs = [.ref p] ∧ (SqL X.K H p ys ∨ SqT X.K H p ys) ∧ Q (.int ys.length) H) [.list ds] (.int ds.length) := .mk fun {G H vs} s a Q q => by
  cases a with
  | cons a r =>
    cases r
    cases a with
    | lst sl r => exact ⟨_, _, rfl, .inl (ex_l s sl), by rw [dpAll_len r]; exact q _ G H (.refl s) (.int _)⟩
theorem rc_lenT {ds : List PyData} : RC X.K (fun xs H Q => ∃ p ys, xs = [.ref p] ∧ (SqL X.K H p ys ∨ SqT X.K H p ys) ∧ Q (.int ys.length) H) [.tuple ds] (.int ds.length) := .mk fun {G H vs} s a Q q => by
  cases a with
  | cons a r =>
    cases r
    cases a with
    | tup sl r => exact ⟨_, _, rfl, .inr (SqT.of (s _ _ sl)), by rw [dpAll_len r]; exact q _ G H (.refl s) (.int _)⟩
theorem rc_tupL {ds : List PyData} : RC X.K (fun xs H Q => ∃ p ys, xs = [.ref p] ∧ ((SqL X.K H p ys ∧ ∀ l, H l = none → Q (.ref l) (L2.upd H l (.tup ys))) ∨ (SqT X.K H p ys ∧ Q (.ref p) H))) [.list ds] (.tuple ds) := .mk fun {G H vs} s a Q q => by
  cases a with
  | cons a r =>
    cases r
    cases a with
    | lst sl r => exact ⟨_, _, rfl, .inl ⟨ex_l s sl, fun l hl => q _ (L2.upd G l (.tup _)) _ (.new s hl) (.tup upd_same (dpAll_mono (Ex.new (s.back hl)) _ r))⟩⟩
theorem rcl_listT {ds : List PyData} : RCL X.K (fun xs H Q => ∃ p ys, xs = [.ref p] ∧ (SqL X.K H p ys ∨ SqT X.K H p ys) ∧ ∀ l, H l = none → Q (.ref l) (L2.upd H l (.lst ys))) [.tuple ds] ds := .mk fun {G H vs} s a Q q => by
  cases a with
  | cons a r =>
    cases r
    cases a with
    | tup sl r => exact ⟨_, _, rfl, .inr (SqT.of (s _ _ sl)), fun l hl => q l _ hl r⟩
theorem rcl_listL {ds : List PyData} : RCL X.K (fun xs H Q => ∃ p ys, xs = [.ref p] ∧ (SqL X.K H p ys ∨ SqT X.K H p ys) ∧ ∀ l, H l = none → Q (.ref l) (L2.upd H l (.lst ys))) [.list ds] ds := .mk fun {G H vs} s a Q q => by
  cases a with
  | cons a r =>
    cases r
    cases a with
    | lst sl r => exact ⟨_, _, rfl, .inl (ex_l s sl), fun l hl => q l _ hl r⟩
theorem rc_abs {i : Int} : RC X.K (fun xs H Q => ∃ i, xs = [.int i] ∧ Q (.int (if i < 0 then -i else i)) H) [.int i] (.int (if i < 0 then -i else i)) := .mk fun {G H vs} s a Q q => by
  cases a with
  | cons a r => cases r; cases a; exact ⟨i, rfl, q _ G H (.refl s) (.int _)⟩
theorem rc_intB {b : Bool} : RC X.K (fun xs H Q => (∃ i, xs = [.int i] ∧ Q (.int i) H) ∨ ∃ k, xs = [.bl k] ∧ Q (.int (if k then 1 else 0)) H) [.bool b] (.int (if b then 1 else 0)) := .mk fun {G H vs} s a Q q => by
  cases a with
  | cons a r => cases r; cases a; exact .inr ⟨b, rfl, q _ G H (.refl s) (.int _)⟩
theorem rc_gcd {i j : Int} : RC X.K rGcd [.int i, .int j] (.int ((Nat.gcd i.natAbs j.natAbs : Nat) : Int)) := .mk fun {G H vs} s a Q q => by
  cases a with
  | cons a r => cases r with
    | cons b r => cases r; cases a; cases b; exact ⟨i, j, rfl, q _ G H (.refl s) (.int _)⟩
/-- sum of a list, of a tuple of ints -/
theorem rc_sumL {ns : List Int} : RC X.K (rSum X.K) [.list (ns.map .int)] (.int ns.sum) := .mk fun {G H vs} s a Q q => by
  cases a with
  | cons a r =>
    cases r
    cases a with
    | lst sl r => exact ⟨_, ns, rfl, by rw [← dpAll_ints' r]; exact ex_l s sl, q _ G H (.refl s) (.int _)⟩
def rSumT (K : PySem.W.Frag) : List V → Hp → VK → Prop := fun vs H Q => ∃ (a : Addr) (ns : List Int), vs = [V.ref a] ∧ SqT K H a (ns.map V.int) ∧ Q (.int ns.sum) H
theorem cr_sumT (hc : X.calm = true) : CallR X (.builtin "sum") (rSumT X.K) := by
  intro pins s σ H vs us Q I r h
  obtain ⟨a, ns, rfl, hs, q⟩ := h
  obtain ⟨its, rv, hl, _⟩ := I.tuple hs
  rw [Vals.ref1 r]
  obtain ⟨xs, e⟩ := rv.ints.allInts.items
  have hn : numsOf (intItems xs).toList = ns := by rw [← e]; exact rv.ints.numsOf
  rw [nums_intItems] at hn
  rw [e] at hl
  refine PySem.W.ktm_sumG (I.ok.hd hc) hl fun h' tk t' hk => ?_
  rw [preSum_eq, List.take_of_length_le (by simp), hn]
  exact ⟨.int _, H, I.kept hk, ⟨_, rfl⟩, q⟩
theorem rc_sumT {ns : List Int} : RC X.K (rSumT X.K) [.tuple (ns.map .int)] (.int ns.sum) := .mk fun {G H vs} s a Q q => by
  cases a with
  | cons a r =>
    cases r
    cases a with
    | tup sl r => exact ⟨_, ns, rfl, by rw [← dpAll_ints' r]; exact SqT.of (s _ _ sl), q _ G H (.refl s) (.int _)⟩
/-- min of three ints -/
def rMin3 : List V → Hp → VK → Prop := fun vs H Q => ∃ a b c : Int, vs = [.int a, .int b, .int c] ∧ Q (.int (min a (min b c))) H
theorem cr_min3 (hc : X.calm = true) : CallR X (.builtin "min") rMin3 := by
  intro pins s σ H vs us Q I r h
  obtain ⟨a, b, c, rfl, q⟩ := h
  cases r with
  | cons r1 r =>
    cases r with
    | cons r2 r =>
      cases r with
      | cons r3 r =>
        cases r
        obtain ⟨t1, rfl⟩ := r1
        obtain ⟨t2, rfl⟩ := r2
        obtain ⟨t3, rfl⟩ := r3
        refine min_three_ints (I.ok.hd hc) fun h' tk hk => ?_
        refine ⟨.int (min a (min b c)), H, I.kept hk, ?_, q⟩
        by_cases h1 : b < a
        · by_cases h2 : c < b
          · rw [if_pos h1, if_pos h2]; exact ⟨t3, by rw [show min a (min b c) = c by omega]⟩
          · rw [if_pos h1, if_neg h2]; exact ⟨t2, by rw [show min a (min b c) = b by omega]⟩
        · by_cases h2 : c < a
          · rw [if_neg h1, if_pos h2]; exact ⟨t3, by rw [show min a (min b c) = c by omega]⟩
          · rw [if_neg h1, if_neg h2]; exact ⟨t1, by rw [show min a (min b c) = a by omega]⟩
theorem rc_min3 {a b c : Int} : RC X.K rMin3 [.int a, .int b, .int c] (.int (min a (min b c))) := .mk fun {G H vs} s x Q q => by
  cases x with
  | cons x r => cases r with
    | cons y r => cases r with
      | cons z r => cases r; cases x; cases y; cases z; exact ⟨a, b, c, rfl, q _ G H (.refl s) (.int _)⟩
/-! ### order of data -/
def rLtD (K : PySem.W.Frag) (f : PyData → PyData → Bool) : R2 := fun x y H Q => ∃ d e, Dd K H x d ∧ Dd K H y e ∧ d.hasDict = false ∧ e.hasDict = false ∧ PySem.W.alike d e = true ∧ d ≠ .none ∧ min d.depth e.depth ≤ 8 ∧ Q (.bl (f d e)) H
theorem op_ltD (hu : X.A.units + 64 < cLine) : OpR X (compareOp .Lt) (rLtD X.K fun d e => PySem.W.dataLt d e) := by
  intro pins s σ H x y v u Q I rx ry h
  obtain ⟨d, e, hd, he, nd, ne, ha, hn, hz, q⟩ := h
  obtain ⟨as, r1⟩ := ddReads I d x v nd hd rx
  obtain ⟨bs, r2⟩ := ddReads I e y u ne he ry
  exact PySem.W.lt_data r1 r2 ha hn (by omega) ⟨.bl _, H, I, rfl, q⟩
theorem op_leD (hu : X.A.units + 64 < cLine) : OpR X (compareOp .LtE) (rLtD X.K fun d e => !PySem.W.dataLt e d) := by
  intro pins s σ H x y v u Q I rx ry h
  obtain ⟨d, e, hd, he, nd, ne, ha, hn, hz, q⟩ := h
  obtain ⟨as, r1⟩ := ddReads I d x v nd hd rx
  obtain ⟨bs, r2⟩ := ddReads I e y u ne he ry
  exact PySem.W.le_data r1 r2 ha hn (by omega) ⟨.bl _, H, I, rfl, q⟩
theorem op_geD (hu : X.A.units + 64 < cLine) : OpR X (compareOp .GtE) (rLtD X.K fun d e => !PySem.W.dataLt d e) := by
  intro pins s σ H x y v u Q I rx ry h
  obtain ⟨d, e, hd, he, nd, ne, ha, hn, hz, q⟩ := h
  obtain ⟨as, r1⟩ := ddReads I d x v nd hd rx
  obtain ⟨bs, r2⟩ := ddReads I e y u ne he ry
  exact PySem.W.ge_data r1 r2 ha hn (by omega) ⟨.bl _, H, I, rfl, q⟩
theorem rd_ord {K : PySem.W.Frag} {f : PyData → PyData → Bool} {d e : PyData} (ha : PySem.W.alike d e = true) (hn : d ≠ .none) (hz : min d.depth e.depth ≤ 8) (nd : d.hasDict = false := by rfl) (ne : e.hasDict = false := by rfl) : RD K (rLtD K f) d e (.bool (f d e)) := .mk fun {G H v w} s a b Q q =>
  ⟨d, e, dp_mono s d a, dp_mono s e b, nd, ne, ha, hn, hz, q _ G H (.refl s) (.bl _)⟩
end
end Ewl
-- DL9
set_option Elab.async false
set_option linter.all false
set_option maxRecDepth 100000
set_option maxHeartbeats 2000000
/-! min and max of two data. -/
namespace Ewl
open PySem L2
section
variable {prog : Program} {w : World} {A : Around} {E : Value → Shared → Prop} {s : Shared}
theorem reads2 {h : Heap} {a b : Value} {x y : PyData} {as bs : List Addr} (ra : Reads h a x as) (rb : Reads h b y bs) : ∃ cs, ReadsAll h (#[a, b] : Array Value).toList [x, y] cs := ⟨_, .cons ra (.cons rb .nil)⟩
theorem min_two_data {a b : Value} {x y : PyData} {as bs : List Addr} {Q : Value → Shared → Prop} (hh : A.handled = none) (ra : Reads s.heap a x as) (rb : Reads s.heap b y bs) (ha : PySem.W.AlikeAll [x, y]) (hu : A.units + 1 + PyData.depthAll [x, y] < cLine)
    (h : ∀ h' tk, (∀ b o, s.heap.get? b = some o → h'.get? b = some o) → Q (if PySem.W.dataLt y x = true then b else a) { s with heap := h', toks := tk }) : wpAny (model prog w) A (call (.builtin "min") [a, b]) Q E s := by
  have hname : (toString "min" ++ toString ".loop" : String) = "min.loop" := by decide
  refine call_function_tree F.kind_min F.plain_min F.entry_min (F.args_min2 _ _) ?_
  show wpAny _ A.in1 (Builtin.Builtins.bindParams "min" ["key", "default"] 0 ⟨[], []⟩ >>= _) _ _ s
  refine wpAny_bind (wpAny_of_eq (show Builtin.Builtins.bindParams "min" ["key", "default"] 0 ⟨[], []⟩ = pure [none, none] from rfl) ?_)
  show wpAny _ A.in1 (newTuple [a, b] >>= _) _ _ s
  refine wpAny_bind (wpAny_newObj_type ?_)
  have hT : (s.heap.push { cls := .type "tuple", data := .seq #[a, b] }).IsTuple s.heap.objs.size #[a, b] := ⟨_, Heap.get?_push_size _ rfl, rfl, 0, rfl⟩
  have kp : ∀ c o, s.heap.get? c = some o → (s.heap.push { cls := .type "tuple", data := .seq #[a, b] }).get? c = some o := fun c o e => Heap.get?_push_of_some _ e
  have hR : ∃ cs, ReadsAll (s.heap.push { cls := .type "tuple", data := .seq #[a, b] }) (#[a, b] : Array Value).toList [x, y] cs := reads2 (PySem.W.reads_keeps kp ra) (PySem.W.reads_keeps kp rb)
  obtain ⟨cs, hr⟩ := hR
  refine wpAny_bind (PySem.W.iter_tupleW (s := { s with heap := s.heap.push { cls := .type "tuple", data := .seq #[a, b] } }) (A := A.in1) hh hT fun s₂ e W st hfp hw hk => ?_)
  have hsz : (#[a, b] : Array Value).size = 2 := rfl
  rw [hsz] at W
  refine wpAny_bind (wpAny_newObj_type ?_)
  have hSf : s₂.heap.objs.size ∉ [(s.heap.push { cls := .type "tuple", data := .seq #[a, b] }).objs.size, s.heap.objs.size] := fun hm => Nat.lt_irrefl _ (hfp _ hm)
  rw [hname]
  refine wpAny_pure ⟨plainId_quiet F.plain_min_loop _, codeAny_min_loop_firstH W _ hw _ (PySem.W.cmpIn_lt (s := { s with heap := s.heap.push { cls := .type "tuple", data := .seq #[a, b] } }) (A := A.in1) hr ha (by show A.units + 1 + _ < _; exact hu)) s₂.heap.objs.size hSf (fresh_in hk) _ (by decide) (fun c o e => Heap.get?_push_of_some _ (hk c o e)) (W.frame 0 s₂ _ s₂.toks st (Nat.le_refl _) fun c _ o e => Heap.get?_push_of_some _ e) (Heap.get?_push_size _ rfl) fun v s' hP hm => ?_⟩
  have hm2 := Moved.drop_new (tk := s₂.toks) hm (Nat.le_refl _)
  obtain ⟨h', tk, rfl, hk'⟩ := PySem.W.moved_old (s := { s with heap := s.heap.push { cls := .type "tuple", data := .seq #[a, b] } }) e rfl hm2
  have q := h h' tk fun c o e => hk' c o (kp c o e)
  have e1 : v = if PySem.W.dataLt y x = true then b else a := by
    have hP' : (#[a, b] : Array Value)[argBest (fun i j => PySem.W.dataLt (([x, y] : List PyData).getD i .none) (([x, y] : List PyData).getD j .none)) 1]? = some v := hP
    by_cases c : PySem.W.dataLt y x = true
    · have e2 : argBest (fun i j => PySem.W.dataLt (([x, y] : List PyData).getD i .none) (([x, y] : List PyData).getD j .none)) 1 = 1 := by simp [argBest, c]
      rw [e2] at hP'
      rw [if_pos c]
      simpa using hP'.symm
    · have e2 : argBest (fun i j => PySem.W.dataLt (([x, y] : List PyData).getD i .none) (([x, y] : List PyData).getD j .none)) 1 = 0 := by simp [argBest, c]
      rw [e2] at hP'
      rw [if_neg c]
      simpa using hP'.symm
  rw [e1]
  exact q
theorem max_two_data {a b : Value} {x y : PyData} {as bs : List Addr} {Q : Value → Shared → Prop} (hh : A.handled = none) (ra : Reads s.heap a x as) (rb : Reads s.heap b y bs) (ha : PySem.W.AlikeAll [x, y]) (hu : A.units + 1 + PyData.depthAll [x, y] < cLine)
    (h : ∀ h' tk, (∀ b o, s.heap.get? b = some o → h'.get? b = some o) → Q (if PySem.W.dataLt x y = true then b else a) { s with heap := h', toks := tk }) : wpAny (model prog w) A (call (.builtin "max") [a, b]) Q E s := by
  have hname : (toString "max" ++ toString ".loop" : String) = "max.loop" := by decide
  refine call_function_tree F.kind_max F.plain_max F.entry_max (F.args_max2 _ _) ?_
  show wpAny _ A.in1 (Builtin.Builtins.bindParams "max" ["key", "default"] 0 ⟨[], []⟩ >>= _) _ _ s
  refine wpAny_bind (wpAny_of_eq (show Builtin.Builtins.bindParams "max" ["key", "default"] 0 ⟨[], []⟩ = pure [none, none] from rfl) ?_)
  show wpAny _ A.in1 (newTuple [a, b] >>= _) _ _ s
  refine wpAny_bind (wpAny_newObj_type ?_)
  have hT : (s.heap.push { cls := .type "tuple", data := .seq #[a, b] }).IsTuple s.heap.objs.size #[a, b] := ⟨_, Heap.get?_push_size _ rfl, rfl, 0, rfl⟩
  have kp : ∀ c o, s.heap.get? c = some o → (s.heap.push { cls := .type "tuple", data := .seq #[a, b] }).get? c = some o := fun c o e => Heap.get?_push_of_some _ e
  have hR : ∃ cs, ReadsAll (s.heap.push { cls := .type "tuple", data := .seq #[a, b] }) (#[a, b] : Array Value).toList [x, y] cs := reads2 (PySem.W.reads_keeps kp ra) (PySem.W.reads_keeps kp rb)
  obtain ⟨cs, hr⟩ := hR
  refine wpAny_bind (PySem.W.iter_tupleW (s := { s with heap := s.heap.push { cls := .type "tuple", data := .seq #[a, b] } }) (A := A.in1) hh hT fun s₂ e W st hfp hw hk => ?_)
  have hsz : (#[a, b] : Array Value).size = 2 := rfl
  rw [hsz] at W
  refine wpAny_bind (wpAny_newObj_type ?_)
  have hSf : s₂.heap.objs.size ∉ [(s.heap.push { cls := .type "tuple", data := .seq #[a, b] }).objs.size, s.heap.objs.size] := fun hm => Nat.lt_irrefl _ (hfp _ hm)
  rw [hname]
  refine wpAny_pure ⟨plainId_quiet F.plain_max_loop _, codeAny_max_loop_firstH W _ hw _ (PySem.W.cmpIn_gt (s := { s with heap := s.heap.push { cls := .type "tuple", data := .seq #[a, b] } }) (A := A.in1) hr ha (by show A.units + 1 + _ < _; exact hu)) s₂.heap.objs.size hSf (fresh_in hk) _ (by decide) (fun c o e => Heap.get?_push_of_some _ (hk c o e)) (W.frame 0 s₂ _ s₂.toks st (Nat.le_refl _) fun c _ o e => Heap.get?_push_of_some _ e) (Heap.get?_push_size _ rfl) fun v s' hP hm => ?_⟩
  have hm2 := Moved.drop_new (tk := s₂.toks) hm (Nat.le_refl _)
  obtain ⟨h', tk, rfl, hk'⟩ := PySem.W.moved_old (s := { s with heap := s.heap.push { cls := .type "tuple", data := .seq #[a, b] } }) e rfl hm2
  have q := h h' tk fun c o e => hk' c o (kp c o e)
  have e1 : v = if PySem.W.dataLt x y = true then b else a := by
    have hP' : (#[a, b] : Array Value)[argBest (fun i j => PySem.W.dataLt (([x, y] : List PyData).getD j .none) (([x, y] : List PyData).getD i .none)) 1]? = some v := hP
    by_cases c : PySem.W.dataLt x y = true
    · have e2 : argBest (fun i j => PySem.W.dataLt (([x, y] : List PyData).getD j .none) (([x, y] : List PyData).getD i .none)) 1 = 1 := by simp [argBest, c]
      rw [e2] at hP'
      rw [if_pos c]
      simpa using hP'.symm
    · have e2 : argBest (fun i j => PySem.W.dataLt (([x, y] : List PyData).getD j .none) (([x, y] : List PyData).getD i .none)) 1 = 0 := by simp [argBest, c]
      rw [e2] at hP'
      rw [if_neg c]
      simpa using hP'.symm
  rw [e1]
  exact q
end
section
variable {X : Cx}
def rMin2D (K : PySem.W.Frag) : List V → Hp → VK → Prop := fun vs H Q => ∃ (v u : V) (x y : PyData), vs = [v, u] ∧ Dd K H v x ∧ Dd K H u y ∧ PySem.W.AlikeAll [x, y] ∧ PyData.depthAll [x, y] ≤ 8 ∧ Q (if PySem.W.dataLt y x = true then u else v) H
def rMax2D (K : PySem.W.Frag) : List V → Hp → VK → Prop := fun vs H Q => ∃ (v u : V) (x y : PyData), vs = [v, u] ∧ Dd K H v x ∧ Dd K H u y ∧ PySem.W.AlikeAll [x, y] ∧ PyData.depthAll [x, y] ≤ 8 ∧ Q (if PySem.W.dataLt x y = true then u else v) H
theorem cr_min2D (hc : X.calm = true) (hu : X.A.units + 64 < cLine) : CallR X (.builtin "min") (rMin2D X.K) := by
  intro pins s σ H vs us Q I r h
  obtain ⟨v, u, x, y, rfl, hx, hy, ha, hz, q⟩ := h
  obtain ⟨a, b, rfl, r1, r2⟩ := vals2 r
  obtain ⟨as, q1⟩ := ddReads I x v a (noDict_of_alike x (ha.1 x (by simp) x (by simp))) hx r1
  obtain ⟨bs, q2⟩ := ddReads I y u b (noDict_of_alike y (ha.1 y (by simp) y (by simp))) hy r2
  refine min_two_data (I.ok.hd hc) q1 q2 ha (by omega) fun h' tk hk => ⟨_, H, I.kept hk, ?_, q⟩
  by_cases c : PySem.W.dataLt y x = true
  · rw [if_pos c, if_pos c]; exact r2
  · rw [if_neg c, if_neg c]; exact r1
theorem cr_max2D (hc : X.calm = true) (hu : X.A.units + 64 < cLine) : CallR X (.builtin "max") (rMax2D X.K) := by
  intro pins s σ H vs us Q I r h
  obtain ⟨v, u, x, y, rfl, hx, hy, ha, hz, q⟩ := h
  obtain ⟨a, b, rfl, r1, r2⟩ := vals2 r
  obtain ⟨as, q1⟩ := ddReads I x v a (noDict_of_alike x (ha.1 x (by simp) x (by simp))) hx r1
  obtain ⟨bs, q2⟩ := ddReads I y u b (noDict_of_alike y (ha.1 y (by simp) y (by simp))) hy r2
  refine max_two_data (I.ok.hd hc) q1 q2 ha (by omega) fun h' tk hk => ⟨_, H, I.kept hk, ?_, q⟩
  by_cases c : PySem.W.dataLt x y = true
  · rw [if_pos c, if_pos c]; exact r2
  · rw [if_neg c, if_neg c]; exact r1
theorem rc_min2 {x y : PyData} (ha : PySem.W.AlikeAll [x, y]) (hz : PyData.depthAll [x, y] ≤ 8) : RC X.K (rMin2D X.K) [x, y] (if PySem.W.dataLt y x = true then y else x) := .mk fun {G H vs} s a Q q => by
  cases a with
  | cons a r => cases r with
    | cons b r =>
      cases r
      refine ⟨_, _, x, y, rfl, dp_mono s x a, dp_mono s y b, ha, hz, q _ G H (.refl s) ?_⟩
      by_cases c : PySem.W.dataLt y x = true
      · rw [if_pos c, if_pos c]; exact b
      · rw [if_neg c, if_neg c]; exact a
theorem rc_max2 {x y : PyData} (ha : PySem.W.AlikeAll [x, y]) (hz : PyData.depthAll [x, y] ≤ 8) : RC X.K (rMax2D X.K) [x, y] (if PySem.W.dataLt x y = true then y else x) := .mk fun {G H vs} s a Q q => by
  cases a with
  | cons a r => cases r with
    | cons b r =>
      cases r
      refine ⟨_, _, x, y, rfl, dp_mono s x a, dp_mono s y b, ha, hz, q _ G H (.refl s) ?_⟩
      by_cases c : PySem.W.dataLt x y = true
      · rw [if_pos c, if_pos c]; exact b
      · rw [if_neg c, if_neg c]; exact a
end
end Ewl
-- DL10
set_option Elab.async false
set_option linter.all false
set_option maxRecDepth 100000
set_option maxHeartbeats 2000000
/-! sorted over data; types; lists repeated, joined. -/
namespace Ewl
open PySem L2
section
variable {X : Cx}
def srtD (ds : List PyData) : List PyData := ds.mergeSort (PySem.W.dataLe false fun d => d)
def rSortedD (K : PySem.W.Frag) : List V → Hp → VK → Prop := fun vs H Q => ∃ (G : Hp) (a : Addr) (xs : List V) (ds : List PyData), Ex G H ∧ vs = [V.ref a] ∧ SqL K H a xs ∧ DdAll K G xs ds ∧ PySem.W.AllAlike ds ∧ PySem.W.Sortable ds ∧ (∀ d ∈ ds, d.depth ≤ 8) ∧
  ∀ (p : Addr) (zs : List V), H p = none → DdAll K G zs (srtD ds) → Q (.ref p) (L2.upd H p (.lst zs))
def IsV (K : PySem.W.Frag) (H : Hp) (v : Value) (d : PyData) : Prop := ∃ x, RelV x v ∧ Dd K H x d
theorem each_of {K : PySem.W.Frag} {H : Hp} : ∀ {xs : List V} {ds : List PyData} {us : List Value}, DdAll K H xs ds → Vals xs us → PySem.W.EachIs (IsV K H) us ds
  | _, _, _, .nil, .nil => .nil
  | _, _, _, .cons h t, .cons r rr => .cons ⟨_, r, h⟩ (each_of t rr)
theorem of_each {K : PySem.W.Frag} {H : Hp} : ∀ {us : List Value} {ds : List PyData}, PySem.W.EachIs (IsV K H) us ds → ∃ xs, Vals xs us ∧ DdAll K H xs ds
  | _, _, .nil => ⟨[], .nil, .nil⟩
  | _, _, .cons ⟨x, r, h⟩ t => by
    obtain ⟨xs, h1, h2⟩ := of_each t
    exact ⟨x :: xs, .cons r h1, .cons h h2⟩
theorem each_mem {R S : Value → PyData → Prop} : ∀ {us : List Value} {ds : List PyData}, PySem.W.EachIs R us ds → (∀ v d, d ∈ ds → R v d → S v d) → PySem.W.EachIs S us ds
  | _, _, .nil, _ => .nil
  | _, _, .cons h t, f => .cons (f _ _ (by simp) h) (each_mem t fun v d m r => f v d (by simp [m]) r)
theorem cr_sortedD (hu : X.A.units + 64 < cLine) : CallR X (.builtin "sorted") (rSortedD X.K) := by
  intro pins s σ H vs us Q I r h
  obtain ⟨G, a, xs, ds, gs, rfl, hs, hd, hal, hk, hz, q⟩ := h
  obtain ⟨its, rv, hl, hL⟩ := I.list hs
  rw [Vals.ref1 r]
  have e1 : PySem.W.EachIs (IsV X.K G) its ds := each_of hd rv
  have e2 : PySem.W.EachIs (fun v b => ∃ as, Reads s.heap v b as) its ds := each_mem e1 fun v d m ⟨x, r, h⟩ => ddReads I d x v (noDict_of_alike d (hal d m d m)) (dp_mono gs d h) r
  have hlen : ds.length = xs.length := (dpAll_len hd).symm
  have em : ds.map (fun d => d) = ds := List.map_id' ds
  refine PySem.W.sorted_data (enc := fun d => d) hl.isList e1 e2 (by rw [em]; exact hal) (by rw [em]; exact hk) (by rw [hlen]; exact hL) (fun b hb => by have := hz b hb; omega) fun out ho eo => ?_
  obtain ⟨zs, hv, hz2⟩ := of_each eo
  obtain ⟨ep, he'⟩ := PyProof.Rows.sortedAll_at s.heap its out.toArray
  have hlz : zs.length ≤ sizeLine := by rw [hv.length, ho, hlen]; exact hL
  refine ⟨.ref _, L2.upd H (s.heap.objs.size + 1) (.lst zs), I.laid (t' := s.toks) (fun _ _ => PyProof.Rows.sortedAll_old) (Nat.le_succ _) ⟨hlz, out, ep, hv, ?_⟩, rfl, q _ zs (I.hok.fresh (Nat.le_succ _)) hz2⟩
  exact he'
theorem rcl_sorted {ds : List PyData} (hal : PySem.W.AllAlike ds) (hk : PySem.W.Sortable ds) (hz : ∀ d ∈ ds, d.depth ≤ 8) : RCL X.K (rSortedD X.K) [.list ds] (srtD ds) := .mk fun {G H vs} s a Q q => by
  cases a with
  | cons a r =>
    cases r
    cases a with
    | lst sl r => exact ⟨G, _, _, ds, s, rfl, ex_l s sl, r, hal, hk, hz, fun p zs hp h => q p zs hp h⟩
/-! ### type(x) == T -/
def tyD : PyData → String
  | .none => "NoneType"
  | .bool _ => "bool"
  | .int _ => "int"
  | .str _ => "str"
  | .list _ => "list"
  | .tuple _ => "tuple"
  | .dict _ => "dict"
theorem ty_in (d : PyData) : tyD d ∈ ["NoneType", "bool", "int", "str", "list", "tuple", "dict"] := by
  cases d <;> simp [tyD]
theorem tyD_is {pins : List (Addr × Obj)} {σ : L2.St} {H : Hp} {s : Shared} {v : V} {u : Value} (I : L2.Inv X pins σ H s) (r : RelV v u) : ∀ {d : PyData}, Dd X.K H v d → s.TypeIs u (tyD d)
  | .none, h => by cases h; cases r; exact typeIs_none s
  | .bool b, h => by cases h; cases r; exact typeIs_bool s b
  | .int i, h => by cases h; obtain ⟨t, rfl⟩ := r; exact typeIs_int s i t
  | .str i, h => by cases h; obtain ⟨t, rfl⟩ := r; exact typeIs_str s i t
  | .list _, h => by
    cases h with
    | lst e _ => cases r; obtain ⟨its, rv, p, _⟩ := I.list e; exact p.isList.typeIs
  | .tuple _, h => by
    cases h with
    | tup e _ => cases r; obtain ⟨its, rv, p, _⟩ := I.tuple (SqT.of e); exact p.typeIs
  | .dict _, h => by
    cases h with
    | dk e _ _ => cases r; obtain ⟨_, _, vs, _, m⟩ := dk_rd I.hok (.inr ⟨_, e⟩); exact m.typeIs
    | dt e _ _ => cases r; obtain ⟨_, _, vs, _, m⟩ := dt_rd I.hok (.inr ⟨_, e⟩); exact m.typeIs
theorem type_beq {S T : String} (h : S ≠ T) : (Value.type S == Value.type T) = false := by
  rw [beq_eq_false_iff_ne]
  intro e
  injection e with e
  exact h e
def rTyD (K : PySem.W.Frag) : List V → Hp → VK → Prop := fun xs H Q => ∃ (x : V) (d : PyData), xs = [x] ∧ Dd K H x d ∧ Q (.ty (tyD d)) H
theorem call_tyD : CallR X (.type "type") (rTyD X.K) := by
  intro pins s σ H xs us Q I r h
  obtain ⟨x, d, rfl, hd, q⟩ := h
  obtain ⟨u, rfl, rx⟩ := vals1 r
  exact call_type_of (tyD_is I rx hd) (type_beq (by cases d <;> simp [tyD])) ⟨.ty (tyD d), H, I, rfl, q⟩
abbrev tyL : List String := ["NoneType", "bool", "int", "str", "list", "tuple", "dict"]
theorem ty_meta {T : String} (h : T ∈ tyL) (s : Shared) : s.TypeIs (.type T) "type" := by
  simp only [tyL, List.mem_cons, List.not_mem_nil, or_false] at h
  rcases h with rfl | rfl | rfl | rfl | rfl | rfl | rfl
  · exact TypeEq.meta_NoneType s
  · exact TypeEq.meta_bool s
  · exact TypeEq.meta_int s
  · exact TypeEq.meta_str s
  · exact TypeEq.meta_list s
  · exact TypeEq.meta_tuple s
  · exact TypeEq.meta_dict s
def rTyEq : R2 := fun x y H Q => ∃ S T, x = .ty S ∧ y = .ty T ∧ S ∈ tyL ∧ T ∈ tyL ∧ Q (.bl (decide (S = T))) H
theorem op_tyEq : OpR X (compareOp .Eq) rTyEq := by
  intro pins s σ H x y v u Q I rx ry h
  obtain ⟨S, T, rfl, rfl, h1, h2, q⟩ := h
  cases rx
  cases ry
  by_cases e : S = T
  · subst e
    exact TypeEq.eq_type_same (ty_meta h1) ⟨.bl true, H, I, rfl, by simpa using q⟩
  · exact TypeEq.eq_type_other (ty_meta h1) (ty_meta h2) (type_beq e) ⟨.bl false, H, I, rfl, by simpa [e] using q⟩
theorem slot_type_ne : Slot "type" (cmpInfo .NotEq).2.1 "object.__ne__" :=
  .of (owner := "object") (n := "__ne__") (by rw [typeLookup_type, builtinLookup_eq_fast]; kernel_rfl) (by decide +kernel) (by decide +kernel) (by decide +kernel)
    (by first | exact .inl (by decide +kernel) | exact .inr (by decide +kernel)) (by rw [isSubtype_type]; kernel_rfl)
theorem ne_type_same {prog : Program} {w : World} {A : Around} {E : Value → Shared → Prop} {s : Shared} {Q : Value → Shared → Prop} {T : String} (hT : ∀ s' : Shared, s'.TypeIs (.type T) "type") (h : Q (.bool false) s) : wpAny (model prog w) A (compareOp .NotEq (.type T) (.type T)) Q E s := by
  show wpAny _ A (richCompare .NotEq _ _) Q E s
  refine wpAny_richCompare_same (op := .NotEq) (T := "type") (hT s) (hT s) slot_type_ne (wpAny_call_entry slot_type_ne (hT s) F.entry_object_ne ?_ (F.args_object_ne_2 _ _))
  unfold Builtin.«object.__ne__»
  have hs : Slot "type" (Str.ofString "__eq__") "object.__eq__" := TypeEq.slot_type_eq
  repeat (first | (with_reducible refine wpAny_cRoomFor_byValue (by rfl) ?_) | (with_reducible refine wpAny_callSpecialIfBound?_slot (hT _) hs ?_) | (with_reducible refine call_gives hs (hT _) F.entry_object_eq (F.args_object_eq_2 _ _) (TypeEq.object_eq_same (a := .type T) (b := .type T) rfl (by simp)) ?_) | wp_step)
  show wpAny (model prog w) A.in1 (truthy (.bool true) >>= fun c => ret (.bool !c)) _ E s
  refine wpAny_bind (wpAny_truthy_bool ?_)
  exact wpAny_pure ⟨_, rfl, (by intro e; cases e), h⟩
/-- the two sides are one type -/
def rTyNeS : R2 := fun x y H Q => ∃ S, x = .ty S ∧ y = .ty S ∧ S ∈ tyL ∧ Q (.bl false) H
theorem op_tyNeS : OpR X (compareOp .NotEq) rTyNeS := by
  intro pins s σ H x y v u Q I rx ry h
  obtain ⟨S, rfl, rfl, h1, q⟩ := h
  cases rx
  cases ry
  exact ne_type_same (ty_meta h1) ⟨.bl false, H, I, rfl, q⟩
variable {e : Expr} {s0 s1 : List Sl} {d : PyData} {p p2 p3 pos : Pos}
theorem ev_tyEq {x : Str} {T : String} (h : Ev X e s0 s1 d) (hm : X.mg "type" = none) (hmT : X.mg x = none) (hT : T ∈ tyL := by decide) (hv : bootBuiltins x = some (.type T) := by decide +kernel) (hg : Gl X "type" := by rfl) (hgT : Gl X x := by rfl) (hn : x ≠ "__name__" := by decide) (hdb : (x == ("__debug__" : Str)) = false := by decide)
    (he : starEach [e] X.env = (false, eval e X.env) :: starEach [] X.env := by rfl) (hpl : (backTo p2 (starEach [] X.env)).any (·.1) = false := by rfl) : Ev X (.Compare (.Call (.Name "type" p) [e] [] p2) [.Eq] [.Name x p3] pos) s0 s1 (.bool (decide (tyD d = T))) := .mk fun E Q q =>
  W.of (pe_cmpR op_tyEq (pe_callTy call_tyD hg hm (by decide +kernel) (pa_cons pe_W pa_nil he) (by decide) (by decide) he hpl) (pe_bltn (v := .ty T) hgT hmT hv rfl hn hdb) (nomark _))
    (h E _ fun v G' H' E' g r => ⟨v, d, rfl, dp_mono E'.s d r, tyD d, T, rfl, rfl, ty_in d, hT, q _ G' H' E' g (.bl _)⟩)
theorem et_tyEq {x : Str} {T : String} (h : Ev X e s0 s1 d) (hm : X.mg "type" = none) (hmT : X.mg x = none) (hT : T ∈ tyL := by decide) (hv : bootBuiltins x = some (.type T) := by decide +kernel) (hg : Gl X "type" := by rfl) (hgT : Gl X x := by rfl) (hn : x ≠ "__name__" := by decide) (hdb : (x == ("__debug__" : Str)) = false := by decide)
    (he : starEach [e] X.env = (false, eval e X.env) :: starEach [] X.env := by rfl) (hpl : (backTo p2 (starEach [] X.env)).any (·.1) = false := by rfl) : EvT X (.Compare (.Call (.Name "type" p) [e] [] p2) [.Eq] [.Name x p3] pos) s0 s1 (decide (tyD d = T)) := .mk fun E Q q =>
  WT.of (pt_cmpR op_tyEq (pe_callTy call_tyD hg hm (by decide +kernel) (pa_cons pe_W pa_nil he) (by decide) (by decide) he hpl) (pe_bltn (v := .ty T) hgT hmT hv rfl hn hdb) (nomark _))
    (h E _ fun v G' H' E' g r => ⟨v, d, rfl, dp_mono E'.s d r, tyD d, T, rfl, rfl, ty_in d, hT, _, rfl, q G' H' E' g⟩)
/-- type(e) != T where it is T -/
theorem et_tyNeS {x : Str} (h : Ev X e s0 s1 d) (hm : X.mg "type" = none) (hmT : X.mg x = none) (hv : bootBuiltins x = some (.type (tyD d)) := by decide +kernel) (hg : Gl X "type" := by rfl) (hgT : Gl X x := by rfl) (hn : x ≠ "__name__" := by decide) (hdb : (x == ("__debug__" : Str)) = false := by decide)
    (he : starEach [e] X.env = (false, eval e X.env) :: starEach [] X.env := by rfl) (hpl : (backTo p2 (starEach [] X.env)).any (·.1) = false := by rfl) : EvT X (.Compare (.Call (.Name "type" p) [e] [] p2) [.NotEq] [.Name x p3] pos) s0 s1 false := .mk fun E Q q =>
  WT.of (pt_cmpR op_tyNeS (pe_callTy call_tyD hg hm (by decide +kernel) (pa_cons pe_W pa_nil he) (by decide) (by decide) he hpl) (pe_bltn (v := .ty (tyD d)) hgT hmT hv rfl hn hdb) (nomark _))
    (h E _ fun v G' H' E' g r => ⟨v, d, rfl, dp_mono E'.s d r, tyD d, rfl, rfl, ty_in d, _, rfl, q G' H' E' g⟩)
end
end Ewl
-- DL11
set_option Elab.async false
set_option linter.all false
set_option maxRecDepth 100000
set_option maxHeartbeats 2000000
/-! Lists of one's own, dicts of one's own. -/
namespace Ewl
open PySem L2
section
variable {X : Cx} {a b e : Expr} {es : List Expr} {s0 s1 s2 : List Sl} {d d1 d2 z : PyData} {xs ys : List PyData} {pos p p2 p3 : Pos} {i : Nat} {x : Str}

/-! ### + and * of lists -/
theorem el_cat (ha : EvL X a s0 s1 xs) (hb : EvL X b s1 s2 ys) (hl : xs.length + ys.length ≤ 100000) : EvL X (.BinOp a .Add b pos) s0 s2 (xs ++ ys) := .mk fun {G₀ H₀ G H σ} E Q q =>
  W.of (pe_op op_cat pe_W pe_W) (ha E _ fun l vs G1 H1 E1 g1 hl1 r1 => by
    have gw := Gw.new (o := .lst vs) E1.s hl1
    refine hb (E1.grow gw) _ fun l2 ws G2 H2 E2 g2 hl2 r2 => ?_
    have h1 : H2 l = some (.lst vs) := E2.s _ _ (g2 _ _ upd_same)
    have gw2 := Gw.new (o := .lst ws) E2.s hl2
    refine ⟨l, l2, vs, ws, rfl, rfl, by rw [upd_ne (ne_of_none h1 hl2)]; exact h1, upd_same, ?_, fun p hp => ?_⟩
    · rw [dpAll_len r1, dpAll_len r2]; exact Nat.le_trans hl (by decide)
    · exact q p (vs ++ ws) _ _ (E2.grow gw2) (((g1.trans gw.g).trans g2).trans gw2.g) hp (dpAll_app (dpAll_mono ((gw.g.trans g2).trans gw2.g) _ r1) (dpAll_mono gw2.g _ r2)))
/-- x + b, x a list of one's own -/
theorem el_catO (hN : X.N[i]? = some x) (h0 : s0[i]? = some (.l xs)) (hb : EvL X b s0 s1 ys) (h1 : s1[i]? = some (.l xs)) (hl : xs.length + ys.length ≤ 100000) (hv : Vis X.env.scope x := by first | exact Or.inl rfl | exact Or.inr (Or.inl rfl) | exact Or.inr (Or.inr rfl))
    (hd : (x == ("__debug__" : Str)) = false := by decide) (hcd : (x == ("__classdict__" : Str)) = false := by decide) : EvL X (.BinOp (.Name x p) .Add b pos) s0 s1 (xs ++ ys) := .mk fun {G₀ H₀ G H σ} E Q q => by
  obtain ⟨l, vs0, hσ, _⟩ := E.getL h0
  refine W.of (pe_op op_cat (pe_var hN hv hd hcd) pe_W) ⟨_, hσ, ?_⟩
  refine hb E _ fun l2 ws G2 H2 E2 g2 hl2 r2 => ?_
  obtain ⟨l', vs, hσ', gn, _, hl', r1⟩ := E2.getL h1
  rw [hσ] at hσ'
  cases hσ'
  have gw2 := Gw.new (o := .lst ws) E2.s hl2
  refine ⟨l, l2, vs, ws, rfl, rfl, by rw [upd_ne (ne_of_none hl' hl2)]; exact hl', upd_same, ?_, fun p hp => ?_⟩
  · rw [dpAll_len r1, dpAll_len r2]; exact Nat.le_trans hl (by decide)
  · exact q p (vs ++ ws) _ _ (E2.grow gw2) (g2.trans gw2.g) hp (dpAll_app (dpAll_mono gw2.g _ r1) (dpAll_mono gw2.g _ r2))
theorem flat_rep {K : PySem.W.Frag} {G : Hp} {vs : List V} {ds : List PyData} (h : DdAll K G vs ds) : ∀ n : Nat, DdAll K G (List.replicate n vs).flatten (List.replicate n ds).flatten
  | 0 => .nil
  | n + 1 => by rw [List.replicate_succ, List.replicate_succ, List.flatten_cons, List.flatten_cons]; exact dpAll_app h (flat_rep h n)
theorem el_rep {k : Int} (ha : EvL X a s0 s1 xs) (hb : Ev X b s1 s2 (.int k)) (hk : -(2 ^ 63) ≤ k ∧ k < 2 ^ 63) (hl : xs.length * k.toNat ≤ 100000) : EvL X (.BinOp a .Mult b pos) s0 s2 (List.replicate k.toNat xs).flatten := .mk fun {G₀ H₀ G H σ} E Q q =>
  W.of (pe_op op_rep pe_W pe_W) (ha E _ fun l vs G1 H1 E1 g1 hl1 r1 => by
    have gw := Gw.new (o := .lst vs) E1.s hl1
    refine hb (E1.grow gw) _ fun v G2 H2 E2 g2 r2 => ?_
    cases r2
    have h1 : H2 l = some (.lst vs) := E2.s _ _ (g2 _ _ upd_same)
    refine ⟨l, k, vs, rfl, rfl, h1, hk.1, hk.2, ?_, fun p hp => ?_⟩
    · rw [dpAll_len r1]; exact Nat.le_trans hl (by decide)
    · exact q p _ _ _ E2 ((g1.trans gw.g).trans g2) hp (flat_rep (dpAll_mono (gw.g.trans g2) _ r1) _))

/-! ### a list of one's own: its length, append, pop -/
theorem ev_lenO (hN : X.N[i]? = some x) (h0 : s0[i]? = some (.l xs)) (hm : X.mg "len" = none) (hg : Gl X "len" := by rfl) (hv : Vis X.env.scope x := by first | exact Or.inl rfl | exact Or.inr (Or.inl rfl) | exact Or.inr (Or.inr rfl))
    (hd : (x == ("__debug__" : Str)) = false := by decide) (hcd : (x == ("__classdict__" : Str)) = false := by decide) (he : starEach [Expr.Name x p] X.env = (false, eval (.Name x p) X.env) :: starEach [] X.env := by rfl) (hpl : (backTo p3 (starEach [] X.env)).any (·.1) = false := by rfl) :
    Ev X (.Call (.Name "len" p2) [.Name x p] [] p3) s0 s0 (.int xs.length) := .mk fun {G₀ H₀ G H σ} E Q q => by
  obtain ⟨l, vs, hσ, gn, _, hl, r⟩ := E.getL h0
  refine W.of (pe_callB call_len_seq hg hm PySem.boot_len (pa_cons (pe_var hN hv hd hcd) pa_nil he) (by decide) (by decide) he hpl) ⟨_, hσ, ?_⟩
  exact ⟨l, vs, rfl, .inl (SqL.of hl), by rw [dpAll_len r]; exact q _ G H E (Ex.refl G) (.int _)⟩
/-- x[k], x a list of one's own -/
theorem ev_ixO {k : Int} (hN : X.N[i]? = some x) (h0 : s0[i]? = some (.l xs)) (hb : Ev X b s0 s1 (.int k)) (h1 : s1[i]? = some (.l xs)) (hk : atI xs k = some d) (hv : Vis X.env.scope x := by first | exact Or.inl rfl | exact Or.inr (Or.inl rfl) | exact Or.inr (Or.inr rfl))
    (hd : (x == ("__debug__" : Str)) = false := by decide) (hcd : (x == ("__classdict__" : Str)) = false := by decide) (hs : PlainIx b := by intro _ _; rfl) : Ev X (.Subscript (.Name x p) b pos) s0 s1 d := .mk fun {G₀ H₀ G H σ} E Q q => by
  obtain ⟨l, vs0, hσ, _⟩ := E.getL h0
  refine W.of (pe_ix ix_list (pe_var hN hv hd hcd) pe_W hs) ⟨_, hσ, ?_⟩
  refine hb E _ fun v G1 H1 E1 g1 r1 => ?_
  cases r1
  obtain ⟨l', vs, hσ', gn, _, hl', r⟩ := E1.getL h1
  rw [hσ] at hσ'
  cases hσ'
  obtain ⟨v, ev, rv⟩ := atI_dp r hk
  exact ⟨l, vs, k, v, rfl, rfl, SqL.of hl', ev, q v G1 H1 E1 g1 rv⟩
theorem st_app (hN : X.N[i]? = some x) (h0 : s0[i]? = some (.l xs)) (hb : Ev X b s0 s1 d) (h1 : s1[i]? = some (.l xs)) (hl : xs.length ≤ 100000) (hv : Vis X.env.scope x := by first | exact Or.inl rfl | exact Or.inr (Or.inl rfl) | exact Or.inr (Or.inr rfl))
    (hd : (x == ("__debug__" : Str)) = false := by decide) (hcd : (x == ("__classdict__" : Str)) = false := by decide)
    (he : ∀ {te : TE}, PE X (.Name x p) te → PE X (.Call (.Attribute (.Name x p) "append" p2) [b] [] p3) (tBM X.K "list" rAppend te (WA X [b])) := by exact fun h => pe_bm PySem.F.plainAttrs_list PySem.F.slot_list_append PySem.F.type_list_append mt_append h pa_W)
    (hs : swapsWith (.Call (.Attribute (.Name x p) "append" p2) [b] [] p3) none pos.line X.env = pure false := by rfl) (hst : starEach [b] X.env = (false, eval b X.env) :: starEach [] X.env := by rfl) : St1 X (.Expr (.Call (.Attribute (.Name x p) "append" p2) [b] [] p3) pos) s0 (.nx (s1.set i (.l (xs ++ [d])))) := .mk fun {G₀ H₀ G H σ} E D k => by
  obtain ⟨l, vs0, hσ, _, _, hl0, _⟩ := E.getL h0
  refine WS.of (ps_expr (he (pe_var hN hv hd hcd)) hs) ⟨_, hσ, .inl ⟨rfl, _, SqL.of hl0⟩, ?_⟩
  refine (ea_cons hb ea_nil hst) E _ fun us G1 H1 E1 g1 r1 => ?_
  cases r1 with
  | cons r1 rr =>
    cases rr
    obtain ⟨l', vs, hσ', gn, _, hl', r⟩ := E1.getL h1
    rw [hσ] at hσ'
    cases hσ'
    refine ⟨l, vs, _, rfl, rfl, hl', ?_, ?_⟩
    · rw [dpAll_len r]; exact Nat.lt_of_le_of_lt hl (by decide)
    · exact k σ G1 _ (E1.putL h1 hσ (dpAll_app r (dpAll_one r1))) g1
end
end Ewl
-- DL12
set_option Elab.async false
set_option linter.all false
set_option maxRecDepth 100000
set_option maxHeartbeats 2000000
/-! pop; dicts; slices. -/
namespace Ewl
open PySem L2
section
variable {X : Cx} {a b e : Expr} {es : List Expr} {s0 s1 s2 : List Sl} {d d1 d2 z : PyData} {xs ys : List PyData} {pos p p2 p3 p4 : Pos} {i j : Nat} {x y : Str}
/-- y = x.pop(k) -/
theorem st_popAt {k : Int} {n : Nat} (hN : X.N[i]? = some x) (h0 : s0[i]? = some (.l xs)) (hb : Ev X b s0 s1 (.int k)) (h1 : s1[i]? = some (.l xs)) (hn : k = (n : Int)) (hn2 : n < xs.length) (hz : xs.length ≤ 100000) (hd1 : xs[n]? = some d) (hj : X.N[j]? = some y) (hlj : j < s1.length) (hND : X.N.Nodup)
    (hy : Loc X.env.scope y := by first | exact Or.inl rfl | exact Or.inr rfl) (hv : Vis X.env.scope x := by first | exact Or.inl rfl | exact Or.inr (Or.inl rfl) | exact Or.inr (Or.inr rfl))
    (hd : (x == ("__debug__" : Str)) = false := by decide) (hcd : (x == ("__classdict__" : Str)) = false := by decide)
    (he : ∀ {te : TE}, PE X (.Name x p) te → PE X (.Call (.Attribute (.Name x p) "pop" p2) [b] [] p3) (tBM X.K "list" rPopAt te (WA X [b])) := by exact fun h => pe_bm PySem.F.plainAttrs_list PySem.F.slot_list_pop PySem.F.type_list_pop mt_popAt h pa_W)
    (hs : swapsWith (.Call (.Attribute (.Name x p) "pop" p2) [b] [] p3) (some (.Name y p4)) pos.line X.env = pure false := by rfl) (hst : starEach [b] X.env = (false, eval b X.env) :: starEach [] X.env := by rfl)
    (hf : X.fn y = true ∨ X.env.scope.names.lookup y = some .local := by first | exact .inl rfl | exact .inr rfl) : St1 X (.Assign [.Name y p4] (.Call (.Attribute (.Name x p) "pop" p2) [b] [] p3) pos) s0 (.nx ((s1.set i (.l (xs.eraseIdx n))).set j (.d d))) := .mk fun {G₀ H₀ G H σ} E D kk => by
  obtain ⟨l, vs0, hσ, _, _, hl0, _⟩ := E.getL h0
  refine WS.of (ps_set hND hj hy (he (pe_var hN hv hd hcd)) hs hf) ⟨_, hσ, .inl ⟨rfl, _, SqL.of hl0⟩, ?_⟩
  refine (ea_cons hb ea_nil hst) E _ fun us G1 H1 E1 g1 r1 => ?_
  cases r1 with
  | cons r1 rr =>
    cases rr
    cases r1
    obtain ⟨l', vs, hσ', gn, _, hl', r⟩ := E1.getL h1
    rw [hσ] at hσ'
    cases hσ'
    have hlen := dpAll_len r
    obtain ⟨v, ev, rv⟩ := dpAll_get r hd1
    refine ⟨l, vs, k, n, v, rfl, rfl, hl', by omega, by omega, ?_, ev, ?_⟩
    · have e1 : ¬ k < 0 := by omega
      have e2 : k.toNat = n := by omega
      have e3 : n < vs.length := by omega
      simp [seqIndex?, e1, e2, e3]
      try omega
    · have E2 := E1.putL h1 hσ (dpAll_erase n r)
      exact kk _ G1 _ (E2.setD (by rw [List.length_set]; exact hlj) rv) g1

/-! ### a dict with texts as keys -/
def valD {κ : Type} [DecidableEq κ] (kvs : List (κ × PyData)) (k : κ) : Option PyData := (kvs.find? fun kv => decide (kv.1 = k)).map (·.2)
def putD {κ : Type} [DecidableEq κ] (kvs : List (κ × PyData)) (k : κ) (v : PyData) : List (κ × PyData) :=
  if (kvs.any fun kv => decide (kv.1 = k)) = true then kvs.map (fun kv => if kv.1 = k then (kv.1, v) else kv) else kvs ++ [(k, v)]
theorem kd_val {κ : Type} [DecidableEq κ] {K : PySem.W.Frag} {G : Hp} {k : κ} : ∀ {ps : List (κ × V)} {kvs : List (κ × PyData)}, KD K G ps kvs → (∀ d, valD kvs k = some d → ∃ v, valV ps k = some v ∧ Dd K G v d) ∧ ((valV ps k).isSome = (valD kvs k).isSome)
  | _, _, .nil => ⟨fun d h => by simp [valD] at h, rfl⟩
  | p :: ps, q :: kvs, .cons h t => by
    have ih := kd_val (k := k) t
    obtain ⟨e, r⟩ := h
    by_cases c : p.1 = k
    · have c' : q.1 = k := e ▸ c
      have e1 : valV (p :: ps) k = some p.2 := valV_pos c
      have e2 : valD (q :: kvs) k = some q.2 := by simp [valD, List.find?_cons, c']
      rw [e1, e2]
      exact ⟨fun d h => by cases h; exact ⟨_, rfl, r⟩, rfl⟩
    · have c' : ¬ q.1 = k := e ▸ c
      have e1 : valV (p :: ps) k = valV ps k := valV_neg c
      have e2 : valD (q :: kvs) k = valD kvs k := by simp [valD, List.find?_cons, c']
      rw [e1, e2]
      exact ih
theorem kd_any {κ : Type} [DecidableEq κ] {K : PySem.W.Frag} {G : Hp} {k : κ} : ∀ {ps : List (κ × V)} {kvs : List (κ × PyData)}, KD K G ps kvs → (ps.any fun kv => decide (kv.1 = k)) = (kvs.any fun kv => decide (kv.1 = k))
  | _, _, .nil => rfl
  | p :: ps, q :: kvs, .cons h t => by
    rw [List.any_cons, List.any_cons, kd_any t, h.1]
theorem kd_map {κ : Type} [DecidableEq κ] {K : PySem.W.Frag} {G : Hp} {k : κ} {v : V} {d : PyData} (r : Dd K G v d) : ∀ {ps : List (κ × V)} {kvs : List (κ × PyData)}, KD K G ps kvs →
    KD K G (ps.map fun kv => if kv.1 = k then (kv.1, v) else kv) (kvs.map fun kv => if kv.1 = k then (kv.1, d) else kv)
  | _, _, .nil => .nil
  | p :: ps, q :: kvs, .cons h t => by
    rw [List.map_cons, List.map_cons]
    refine .cons ?_ (kd_map r t)
    by_cases c : p.1 = k
    · rw [if_pos c, if_pos (h.1 ▸ c)]; exact ⟨h.1, r⟩
    · rw [if_neg c, if_neg (h.1 ▸ c)]; exact h
theorem kd_app {κ : Type} {K : PySem.W.Frag} {G : Hp} : ∀ {ps : List (κ × V)} {kvs : List (κ × PyData)} {qs : List (κ × V)} {lvs : List (κ × PyData)}, KD K G ps kvs → KD K G qs lvs → KD K G (ps ++ qs) (kvs ++ lvs)
  | _, _, _, _, .nil, s => s
  | _, _, _, _, .cons h t, s => .cons h (kd_app t s)
theorem kd_put {κ : Type} [DecidableEq κ] {K : PySem.W.Frag} {G : Hp} {k : κ} {v : V} {d : PyData} (r : Dd K G v d) {ps : List (κ × V)} {kvs : List (κ × PyData)} (h : KD K G ps kvs) : KD K G (putK ps k v) (putD kvs k d) := by
  unfold putK putD
  rw [kd_any h]
  split
  · exact kd_map r h
  · exact kd_app h (.cons ⟨rfl, r⟩ .nil)
theorem kd_len {κ : Type} {K : PySem.W.Frag} {G : Hp} : ∀ {ps : List (κ × V)} {kvs : List (κ × PyData)}, KD K G ps kvs → ps.length = kvs.length
  | _, _, .nil => rfl
  | _, _, .cons _ t => by rw [List.length_cons, List.length_cons, kd_len t]
/-- x['k'] -/
theorem ev_dgetK {o : Option Addr} {kvs : List (Key × PyData)} {k : Str} {j' : Nat} (hN : X.N[i]? = some x) (h0 : s0[i]? = some (.dk o kvs)) (hk : valD kvs (Sum.inr k) = some d) (hu : X.A.units + 1 < cLine) (hv : Vis X.env.scope x := by first | exact Or.inl rfl | exact Or.inr (Or.inl rfl) | exact Or.inr (Or.inr rfl))
    (hd : (x == ("__debug__" : Str)) = false := by decide) (hcd : (x == ("__classdict__" : Str)) = false := by decide) (hs : NoSl (.Constant (.str k) j' p2) := by intro _ _; rfl) : Ev X (.Subscript (.Name x p) (.Constant (.str k) j' p2) pos) s0 s0 d := .mk fun {G₀ H₀ G H σ} E Q q => by
  obtain ⟨l, ps, hσ, eo, gn, _, hl, r⟩ := E.getK h0
  refine W.of (pe_dget hu (pe_var hN hv hd hcd) pe_str hs) ⟨_, hσ, ?_⟩
  obtain ⟨v, ev, rv⟩ := (kd_val r).1 d hk
  exact ⟨l, v, rfl, by rw [← ev]; exact DGet.k (k := Sum.inr k) hl, q v G H E (Ex.refl G) rv⟩
/-- x['k'] = e -/
theorem st_dputK {o : Option Addr} {kvs : List (Key × PyData)} {k : Str} {j' : Nat} (hN : X.N[i]? = some x) (he : Ev X e s0 s1 d) (h1 : s1[i]? = some (.dk o kvs)) (hz : kvs.length ≤ 1000) (hu : X.A.units + 1 < cLine) (hv : Vis X.env.scope x := by first | exact Or.inl rfl | exact Or.inr (Or.inl rfl) | exact Or.inr (Or.inr rfl))
    (hd : (x == ("__debug__" : Str)) = false := by decide) (hcd : (x == ("__classdict__" : Str)) = false := by decide) (hs : swapsWith e (some (.Subscript (.Name x p) (.Constant (.str k) j' p2) p3)) pos.line X.env = pure false := by rfl) :
    St1 X (.Assign [.Subscript (.Name x p) (.Constant (.str k) j' p2) p3] e pos) s0 (.nx (s1.set i (.dk o (putD kvs (Sum.inr k) d)))) := .mk fun {G₀ H₀ G H σ} E D kk => by
  refine WS.of (ps_dput hu (pe_var hN hv hd hcd) pe_str pe_W hs) (he E _ fun v G1 H1 E1 g1 r1 => ?_)
  obtain ⟨l, ps, hσ, eo, gn, h0, hl, r⟩ := E1.getK h1
  refine ⟨_, hσ, l, _, rfl, DPut.k (k := Sum.inr k) hl ?_, ?_⟩
  · rw [kd_len r]; exact Nat.lt_of_le_of_lt hz (by decide)
  · exact kk σ G1 _ (E1.putK h1 hσ (Ex.refl G1) (E1.s.put gn) (fun b u hb hu => by rw [upd_ne hb]; exact hu) (fun b u _ _ _ n => n) gn upd_same (kd_put r1 r)) g1
/-! ### a dict with tuples of ints as keys -/
def kI (ns : List Int) : List Key := ns.map Sum.inl
def tI (ns : List Int) : PyData := .tuple (ns.map .int)
theorem dd_tI {K : PySem.W.Frag} {G : Hp} {v : V} {ns : List Int} (h : Dd K G v (tI ns)) : ∃ b, v = .ref b ∧ G b = some (.tup ((kI ns).map kV)) := by
  cases h with
  | tup s a =>
    have e : (kI ns).map kV = ns.map V.int := by unfold kI; rw [List.map_map]; rfl
    exact ⟨_, rfl, by rw [e, ← dpAll_ints' a]; exact s⟩
/-- e in x, e a tuple of ints -/
theorem et_inT {kvs : List (List Key × PyData)} {ns : List Int} (hN : X.N[i]? = some x) (he : Ev X e s0 s1 (tI ns)) (h1 : s1[i]? = some (.dt kvs)) (hu : X.A.units + 1 < cLine) (hv : Vis X.env.scope x := by first | exact Or.inl rfl | exact Or.inr (Or.inl rfl) | exact Or.inr (Or.inr rfl))
    (hd : (x == ("__debug__" : Str)) = false := by decide) (hcd : (x == ("__classdict__" : Str)) = false := by decide) (hb : behindInMarks .In (.Name x p) = false := by rfl) : EvT X (.Compare e [.In] [.Name x p] pos) s0 s1 (valD kvs (kI ns)).isSome := .mk fun {G₀ H₀ G H σ} E Q q => by
  refine WT.of (pt_cmp (pc_din hu pe_W (pe_var hN hv hd hcd)) hb) (he E _ fun v G1 H1 E1 g1 r1 => ?_)
  obtain ⟨l, ps, hσ, gn, _, hl, r⟩ := E1.getT h1
  obtain ⟨b, rfl, hb⟩ := dd_tI r1
  exact ⟨_, hσ, l, _, rfl, DGet.t hl (E1.s _ _ hb), _, rfl, by rw [(kd_val r).2]; exact q G1 H1 E1 g1⟩
/-- x[e] = True, or other data -/
theorem st_dputT {kvs : List (List Key × PyData)} {ns : List Int} (hN : X.N[i]? = some x) (he : Ev X e s0 s1 d) (hk : Ev X a s1 s2 (tI ns)) (h0 : s1[i]? = some (.dt kvs)) (h1 : s2[i]? = some (.dt kvs)) (hz : kvs.length ≤ 1000) (hu : X.A.units + 1 < cLine) (hv : Vis X.env.scope x := by first | exact Or.inl rfl | exact Or.inr (Or.inl rfl) | exact Or.inr (Or.inr rfl))
    (hd : (x == ("__debug__" : Str)) = false := by decide) (hcd : (x == ("__classdict__" : Str)) = false := by decide) (hs : swapsWith e (some (.Subscript (.Name x p) a p3)) pos.line X.env = pure false := by rfl) :
    St1 X (.Assign [.Subscript (.Name x p) a p3] e pos) s0 (.nx (s2.set i (.dt (putD kvs (kI ns) d)))) := .mk fun {G₀ H₀ G H σ} E D kk => by
  refine WS.of (ps_dput hu (pe_var hN hv hd hcd) pe_W pe_W hs) (he E _ fun v G1 H1 E1 g1 r1 => ?_)
  obtain ⟨l0, ps0, hσ0, _⟩ := E1.getT h0
  refine ⟨_, hσ0, hk E1 _ fun v2 G2 H2 E2 g2 r2 => ?_⟩
  obtain ⟨l, ps, hσ, gn, _, hl, r⟩ := E2.getT h1
  rw [hσ0] at hσ
  cases hσ
  obtain ⟨b, rfl, hb⟩ := dd_tI r2
  refine ⟨_, _, rfl, DPut.t hl (E2.s _ _ hb) ?_, ?_⟩
  · rw [kd_len r]; exact Nat.lt_of_le_of_lt hz (by decide)
  · exact kk σ G2 _ (E2.putT h1 hσ0 (kd_put (dp_mono g2 d r1) r)) (g1.trans g2)
theorem st_newT {pos' : Pos} (hi : X.N[i]? = some x) (hl : i < s0.length) (hN : X.N.Nodup) (hx : Loc X.env.scope x := by first | exact Or.inl rfl | exact Or.inr rfl) (hs : swapsWith (.Dict [] [] p) (some (.Name x pos')) pos.line X.env = pure false := by rfl)
    (hf : X.fn x = true ∨ X.env.scope.names.lookup x = some .local := by first | exact .inl rfl | exact .inr rfl) : St1 X (.Assign [.Name x pos'] (.Dict [] [] p) pos) s0 (.nx (s0.set i (.dt []))) := .mk fun {G₀ H₀ G H σ} E D k =>
  WS.of (ps_set hN hi hx pe_dnewT hs hf) fun a ha => k _ G _ (E.setT hl ha) (Ex.refl G)

/-! ### slices of lists -/
def sliceD (ds : List PyData) (lo hi : Option Int) : List PyData := (ds.drop (HT.sIx ds.length 0 lo)).take (HT.sIx ds.length ds.length hi - HT.sIx ds.length 0 lo)
theorem cut_dd {K : PySem.W.Frag} {G : Hp} {vs : List V} {ds : List PyData} (h : DdAll K G vs ds) (lo hi : Option Int) : DdAll K G (cutV vs lo hi) (sliceD ds lo hi) := by
  unfold cutV sliceD
  rw [dpAll_len h]
  exact dpAll_take _ (dpAll_drop _ h)
theorem el_sliceF {k : Int} {j' : Nat} (ha : Ev X a s0 s1 (.list xs)) : EvL X (.Subscript a (.Slice (some (.Constant (.int k) j' p3)) none none p2) pos) s0 s1 (sliceD xs (some k) none) := .mk fun E Q q =>
  W.of (pe_slice sl_list pe_W (po_some pe_int) po_none) (ha E _ fun v G1 H1 E1 g1 r1 => by
    cases r1 with
    | lst s r => exact ⟨k, rfl, _, _, rfl, ex_l E1.s s, fun p hp => q p _ G1 H1 E1 g1 hp (cut_dd r _ _)⟩)
theorem el_sliceT {k : Int} {j' : Nat} (ha : Ev X a s0 s1 (.list xs)) : EvL X (.Subscript a (.Slice none (some (.Constant (.int k) j' p3)) none p2) pos) s0 s1 (sliceD xs none (some k)) := .mk fun E Q q =>
  W.of (pe_slice sl_list pe_W po_none (po_some pe_int)) (ha E _ fun v G1 H1 E1 g1 r1 => by
    cases r1 with
    | lst s r => exact ⟨k, rfl, _, _, rfl, ex_l E1.s s, fun p hp => q p _ G1 H1 E1 g1 hp (cut_dd r _ _)⟩)
end
end Ewl
-- DL13
set_option Elab.async false
set_option linter.all false
set_option maxRecDepth 100000
set_option maxHeartbeats 2000000
/-! A list of lists, all one's own. -/
namespace Ewl
open PySem L2
section
variable {K : PySem.W.Frag} {G₀ H₀ B B' G H G' H' : Hp} {σ : L2.St} {sl : List Sl}
theorem En.rebase (E : En K G₀ B G H σ sl) (h1 : Ex B' H') (h2 : Ex G H') (h3 : ∀ b o, B' b = some o → NT o → G₀ b = none → G b = none) (h4 : ∀ b o, B b = none → H b = some o → B' b = none ∧ H' b = some o) : En K G₀ B' G H' σ sl := by
  obtain ⟨fp, k1, k3, k4⟩ := E.own
  refine ⟨⟨E.gw.g, h1, h2, h3⟩, E.len, fp, fun i => (k1 i).mono (Ex.refl G) fun a ha o ho _ => ⟨(h4 a o (k4 i a ha) ho).2, fun n => n⟩, k3, fun i a ha => ?_⟩
  obtain ⟨_, o, ho, _⟩ := (k1 i).free a ha
  exact (h4 a o (k4 i a ha) ho).1
/-- rows told by a heap B -/
def RowsB (K : PySem.W.Frag) (G B : Hp) : List Addr → List (List PyData) → Prop
  | [], [] => True
  | a :: as, xs :: xss => (∃ vs, B a = some (.lst vs) ∧ DdAll K G vs xs) ∧ RowsB K G B as xss
  | _, _ => False
theorem RowsB.mono (g : Ex G G') : ∀ {as : List Addr} {xss : List (List PyData)}, (∀ a ∈ as, B' a = B a) → RowsB K G B as xss → RowsB K G' B' as xss
  | [], [], _, _ => trivial
  | a :: as, xs :: xss, k, ⟨⟨vs, h1, h2⟩, h3⟩ => ⟨⟨vs, by rw [k a (List.mem_cons_self)]; exact h1, dpAll_mono g xs h2⟩, RowsB.mono g (fun b hb => k b (List.mem_cons_of_mem _ hb)) h3⟩
  | [], _ :: _, _, h => h.elim
  | _ :: _, [], _, h => h.elim
theorem RowsB.app {a : Addr} {vs : List V} {xs : List PyData} (h1 : B a = some (.lst vs)) (h2 : DdAll K G vs xs) : ∀ {as : List Addr} {xss : List (List PyData)}, RowsB K G B as xss → RowsB K G B (as ++ [a]) (xss ++ [xs])
  | [], [], _ => ⟨⟨vs, h1, h2⟩, trivial⟩
  | _ :: _, _ :: _, ⟨q, h3⟩ => ⟨q, RowsB.app h1 h2 h3⟩
  | [], _ :: _, h => h.elim
  | _ :: _, [], h => h.elim
theorem RowsB.len : ∀ {as : List Addr} {xss : List (List PyData)}, RowsB K G B as xss → as.length = xss.length
  | [], [], _ => rfl
  | _ :: _, _ :: _, h => by rw [List.length_cons, List.length_cons, RowsB.len h.2]
  | [], _ :: _, h => h.elim
  | _ :: _, [], h => h.elim
theorem RowsB.rows (hG : ∀ a o, B a = some o → NT o → H₀ a = none → G a = none) (hB : Ex B H) : ∀ {as : List Addr} {xss : List (List PyData)}, (∀ a ∈ as, H₀ a = none) → RowsB K G B as xss → Rows K G H as xss
  | [], [], _, _ => trivial
  | a :: as, xs :: xss, k, ⟨⟨vs, h1, h2⟩, h3⟩ => ⟨hG a _ h1 .lst (k a List.mem_cons_self), ⟨vs, hB _ _ h1, h2⟩, RowsB.rows hG hB (fun b hb => k b (List.mem_cons_of_mem _ hb)) h3⟩
  | [], _ :: _, _, h => h.elim
  | _ :: _, [], _, h => h.elim
theorem RowsB.mem : ∀ {as : List Addr} {xss : List (List PyData)}, RowsB K G B as xss → ∀ a ∈ as, ∃ o, B a = some o
  | [], [], _, a, ha => by cases ha
  | c :: as, xs :: xss, ⟨⟨vs, h1, _⟩, h3⟩, a, ha => by
    rcases List.mem_cons.mp ha with z | z
    · subst z; exact ⟨_, h1⟩
    · exact RowsB.mem h3 a z
  | [], _ :: _, h, _, _ => h.elim
  | _ :: _, [], h, _, _ => h.elim
end
section
variable {X : Cx} {tg iter c elt : Expr} {s0 s1 s2 : List Sl} {items : List PyData} {yss : List (List PyData)} {pos : Pos} {scope : Scope} {own : List (Str × Nat)}
/-- y = [ELT for ..], each element a new list of one's own -/
theorem st_lcLL {S : Nat → List Sl} (hi : EvI X tg iter s0 s1 items) (ok : BlkOk X.N X.env.scope scope own) (h0 : S 0 = wipeS s1 (own.map (·.2))) (hlen : yss.length = items.length) (hsz : items.length ≤ 100000)
    (turn : ∀ (i : Nat) (d : PyData) (ys : List PyData), items[i]? = some d → yss[i]? = some ys → ∃ m ts m', (∀ j ∈ ts, j ∈ own.map (·.2)) ∧ wipeS m' (own.map (·.2)) = S (i + 1) ∧
      ∀ (s : Shared) (H : Hp) (C : Addr) (cl : List (Str × Addr)) (fp : List Addr), Tg (Blk X scope s H C cl fp) tg (S i) d m ts ∧ EvL (Blk X scope s H C cl fp) elt m m' ys)
    {j : Nat} {y : Str} {py spos : Pos} (hN : X.N.Nodup) (hy : X.N[j]? = some y) (hlj : j < (S items.length).length) (hyl : X.env.scope.names.lookup y = some .local := by rfl)
    (hsw : swapsWith (.ListComp elt [⟨tg, iter, [], 0⟩] scope pos) (some (.Name y py)) spos.line X.env = pure true := by exact sw_true rfl rfl rfl (by decide +kernel)) (hc : X.calm = true := by rfl) (hs : ∀ x, foldedSetIterable iter X.env x = pure x := by intro _; rfl) :
    St1 X (.Assign [.Name y py] (.ListComp elt [⟨tg, iter, [], 0⟩] scope pos) spos) s0 (.nx ((S items.length).set j (.ll yss))) := .mk fun {G₀ H₀ G H σ} E DD kk => by
  refine WS.of (ps_setLc hc hN hy hyl hsw pi_W ok gb_ok (fun _ _ _ _ _ => pts_nil) eb_ok hs) ?_
  refine hi E _ fun J G' H' E' g y D hD => ?_
  have h0D : H₀ D = none := E'.gw.h.back hD
  have g0D : G₀ D = none := (E'.gw.g.trans E'.s).back hD
  refine ⟨fun i m H => m = items.length - i ∧ i ≤ items.length ∧ ∃ B G1 as, En X.K G₀ B G1 H (wipe σ (own.map (·.2))) (S i) ∧ Ex G' G1 ∧ Ex H₀ B ∧ B D = some (.lst (as.map V.ref)) ∧ RowsB X.K G1 B as (yss.take i) ∧ (D :: as).Nodup ∧ ∀ a ∈ D :: as, H₀ a = none ∧ G₀ a = none,
    ⟨items.length, by simp, Nat.zero_le _, L2.upd H₀ D (.lst []), G', [], ?_, Ex.refl _, Ex.new h0D, upd_same, trivial, by simp, fun a ha => ?_⟩, ?_⟩
  · rw [h0]; exact (en_wipe E' _).keep hD
  · have : a = D := by simpa using ha
    subst this; exact ⟨h0D, g0D⟩
  rintro i m H3 ⟨rfl, hil, B, G1, as, E1, g1, eB, hBD, ra, nd, hfr⟩
  by_cases hlt : i < items.length
  · obtain ⟨go, yd⟩ := (y i G1 _ g1 E1.s).1 hlt
    refine .inr ⟨go, fun H => ∃ B G1 as, En X.K G₀ B G1 H (wipe σ (own.map (·.2))) (S (i + 1)) ∧ Ex G' G1 ∧ Ex H₀ B ∧ B D = some (.lst (as.map V.ref)) ∧ RowsB X.K G1 B as (yss.take (i + 1)) ∧ (D :: as).Nodup ∧ ∀ a ∈ D :: as, H₀ a = none ∧ G₀ a = none,
      fun H' p => ⟨items.length - (i + 1), by omega, rfl, hlt, p⟩, fun x H2 hy => ?_⟩
    obtain ⟨G2, d, hd, gw, r⟩ := yd x H2 hy
    have hyi : yss[i]? = some yss[i] := by simp [hlen, hlt]
    obtain ⟨m, ts, m', hts, hm', hb⟩ := turn i d yss[i] hd hyi
    intro s H0 C cl fp
    refine (hb s H0 C cl fp).1 (E1.grow gw) r _ fun σ2 E3 hl2 hout => ?_
    have hw : wipe σ2 (own.map (·.2)) = wipe σ (own.map (·.2)) := wipe_eq (by rw [hl2, wipe_length]) fun j hj => by rw [hout j fun z => hj (hts j z), wipe_out hj]
    refine ⟨hw, ?_⟩
    simp only [tYes, if_true]
    intro s' H0' C' cl' fp'
    refine (hb s' H0' C' cl' fp').2 E3 _ fun p vs G4 H4 E4 g4 hp r4 => ?_
    have hD4 : H4 D = some (.lst (as.map V.ref)) := E4.gw.h D _ hBD
    have hDp : D ≠ p := ne_of_none hD4 hp
    have hBp : B p = none := E4.gw.h.back hp
    have hG4p : G4 p = none := E4.s.back hp
    have hG4D : G4 D = none := E4.gw.m D _ hBD .lst g0D
    refine ⟨as.map V.ref, by rw [upd_ne hDp]; exact hD4, ?_, L2.upd (L2.upd B D (.lst (as.map V.ref ++ [.ref p]))) p (.lst vs), G4, as ++ [p], ?_, (g1.trans gw.g).trans g4, ?_, ?_, ?_, ?_, ?_⟩
    · rw [List.length_map, ra.len, List.length_take]
      exact Nat.lt_of_le_of_lt (show _ ≤ 100000 by omega) (by decide)
    · have E5 := en_wipe E4 (own.map (·.2))
      rw [hw, hm'] at E5
      refine E5.rebase (fun b o hb => ?_) (fun b o hb => ?_) (fun b o hb t hn => ?_) fun b o hb ho => ?_
      · by_cases q1 : b = p
        · subst q1; rw [upd_same] at hb; cases hb; rw [upd_ne (Ne.symm hDp), upd_same]
        · rw [upd_ne q1] at hb
          by_cases q2 : b = D
          · subst q2; rw [upd_same] at hb; cases hb; rw [upd_same]
          · rw [upd_ne q2] at hb; rw [upd_ne q2, upd_ne q1]; exact E4.gw.h b o hb
      · have n1 : b ≠ D := ne_of_none hb hG4D
        have n2 : b ≠ p := ne_of_none hb hG4p
        rw [upd_ne n1, upd_ne n2]; exact E4.s b o hb
      · by_cases q1 : b = p
        · subst q1; exact hG4p
        · rw [upd_ne q1] at hb
          by_cases q2 : b = D
          · subst q2; exact hG4D
          · rw [upd_ne q2] at hb; exact E4.gw.m b o hb t hn
      · have n1 : b ≠ D := fun z => by rw [z, hBD] at hb; cases hb
        have n2 : b ≠ p := ne_of_none ho hp
        exact ⟨by rw [upd_ne n2, upd_ne n1]; exact hb, by rw [upd_ne n1, upd_ne n2]; exact ho⟩
    · exact (eB.put h0D).put (eB.back hBp)
    · rw [upd_ne hDp, upd_same, List.map_append]; rfl
    · rw [take_more hyi]
      refine RowsB.app upd_same r4 (RowsB.mono (gw.g.trans g4) (fun a ha => ?_) ra)
      have n1 : a ≠ D := fun z => by subst z; exact (List.nodup_cons.mp nd).1 ha
      have n2 : a ≠ p := fun z => by
        obtain ⟨o, ho⟩ := ra.mem a ha
        rw [z, hBp] at ho; cases ho
      rw [upd_ne n2, upd_ne n1]
    · have n2 : p ∉ D :: as := fun hm => by
        rcases List.mem_cons.mp hm with z | z
        · exact hDp z.symm
        · obtain ⟨o, ho⟩ := ra.mem p z
          rw [hBp] at ho; cases ho
      rw [← List.cons_append, List.nodup_append]
      exact ⟨nd, by simp, fun a ha b hb => by rw [List.mem_singleton.mp hb]; exact fun z => n2 (z ▸ ha)⟩
    · intro a ha
      rw [← List.cons_append] at ha
      rcases List.mem_append.mp ha with z | z
      · exact hfr a z
      · rw [List.mem_singleton.mp z]; exact ⟨eB.back hBp, (E4.gw.g.trans E4.s).back hp⟩
  · have e : i = items.length := by omega
    subst e
    refine .inl ⟨(y _ G1 _ g1 E1.s).2 rfl, ?_⟩
    have hwS : wipeS (S items.length) (own.map (·.2)) = S items.length := by
      cases hn : items.length with
      | zero => rw [h0]; exact wipeS_idem
      | succ n =>
        have hn' : n < items.length := by omega
        obtain ⟨m, ts, m', _, hm', _⟩ := turn n items[n] yss[n] (by simp [hn']) (by simp [hlen, hn'])
        rw [← hm']; exact wipeS_idem
    have E6 := en_unwipe E1
    rw [hwS] at E6
    rw [← hlen, List.take_length] at ra
    obtain ⟨fp, k1, k3, k4⟩ := E6.own
    refine kk _ G1 H3 ⟨⟨E6.gw.g, eB.trans E6.gw.h, E6.s, fun a o ha t hn => E6.gw.m a o (eB a o ha) t hn⟩, by rw [List.length_set, List.length_set, E6.len], fun l => if l = j then D :: as else fp l, fun l => ?_, fun l n a ha hb => ?_, fun l a ha => ?_⟩ (g.trans g1)
    · by_cases q : l = j
      · subst q
        show SlotIs X.K G1 H3 _ _ l (if l = l then D :: as else fp l)
        rw [if_pos rfl]
        exact .of (List.getElem?_set_self hlj) (List.getElem?_set_self (by rw [E6.len]; exact hlj)) ⟨D, as, rfl, rfl, E6.gw.m D _ hBD .lst g0D, E6.gw.h D _ hBD, nd, ra.rows (H₀ := G₀) (fun a o h1 t h2 => E6.gw.m a o h1 t h2) E6.gw.h fun a ha => (hfr a (List.mem_cons_of_mem _ ha)).2⟩
      · show SlotIs X.K G1 H3 _ _ l (if l = j then D :: as else fp l)
        rw [if_neg q]
        exact (k1 l).at (List.getElem?_set_ne (Ne.symm q)) (List.getElem?_set_ne (Ne.symm q))
    · have inB : ∀ b ∈ D :: as, ∃ o, B b = some o := fun b hb => by
        rcases List.mem_cons.mp hb with z | z
        · subst z; exact ⟨_, hBD⟩
        · exact ra.mem b z
      by_cases ql : l = j
      · by_cases qn : n = j
        · rw [ql, qn]
        · simp only [if_pos ql] at ha
          simp only [if_neg qn] at hb
          obtain ⟨o, ho⟩ := inB a ha
          rw [k4 n a hb] at ho; cases ho
      · by_cases qn : n = j
        · simp only [if_neg ql] at ha
          simp only [if_pos qn] at hb
          obtain ⟨o, ho⟩ := inB a hb
          rw [k4 l a ha] at ho; cases ho
        · simp only [if_neg ql] at ha
          simp only [if_neg qn] at hb
          exact k3 l n a ha hb
    · by_cases ql : l = j
      · simp only [if_pos ql] at ha
        exact (hfr a ha).1
      · simp only [if_neg ql] at ha
        exact eB.back (k4 l a ha)
end
end Ewl
-- DL14
set_option Elab.async false
set_option linter.all false
set_option maxRecDepth 100000
set_option maxHeartbeats 2000000
/-! Rows changed; frozen. -/
namespace Ewl
open PySem L2
section
variable {K : PySem.W.Frag} {G₀ H₀ G H G' H' : Hp} {σ : L2.St} {sls : List Sl}
theorem Rows.get : ∀ {as : List Addr} {xss : List (List PyData)} {n : Nat} {xs : List PyData}, Rows K G H as xss → xss[n]? = some xs → ∃ a vs, as[n]? = some a ∧ G a = none ∧ H a = some (.lst vs) ∧ DdAll K G vs xs
  | [], [], n, xs, _, h => by simp at h
  | a :: as, x :: xss, 0, xs, ⟨n, ⟨vs, h1, h2⟩, _⟩, h => by simp at h; subst h; exact ⟨a, vs, rfl, n, h1, h2⟩
  | a :: as, x :: xss, k + 1, xs, ⟨_, _, r⟩, h => by
    obtain ⟨b, vs, h1, h2⟩ := Rows.get r (n := k) (xs := xs) (by simpa using h)
    exact ⟨b, vs, by simpa using h1, h2⟩
  | [], _ :: _, _, _, r, _ => r.elim
  | _ :: _, [], _, _, r, _ => r.elim
theorem Rows.set {b : Addr} {ws : List V} {ys : List PyData} (hy : DdAll K G ws ys) : ∀ {as : List Addr} {xss : List (List PyData)} {n : Nat}, as.Nodup → as[n]? = some b → Rows K G H as xss → Rows K G (L2.upd H b (.lst ws)) as (xss.set n ys)
  | [], [], n, _, h, _ => by simp at h
  | a :: as, x :: xss, 0, nd, h, ⟨n, ⟨vs, h1, h2⟩, r⟩ => by
    simp at h
    subst h
    refine ⟨n, ⟨ws, upd_same, hy⟩, Rows.mono (Ex.refl G) (fun c hc o ho _ => ⟨?_, fun z => z⟩) r⟩
    rw [upd_ne (show c ≠ a from fun z => (List.nodup_cons.mp nd).1 (by rw [← z]; exact hc))]; exact ho
  | a :: as, x :: xss, k + 1, nd, h, ⟨n, ⟨vs, h1, h2⟩, r⟩ => by
    have h' : as[k]? = some b := by simpa using h
    have hb : b ∈ as := List.mem_of_getElem? h'
    refine ⟨n, ⟨vs, ?_, h2⟩, Rows.set hy (List.nodup_cons.mp nd).2 h' r⟩
    rw [upd_ne (show a ≠ b from fun z => (List.nodup_cons.mp nd).1 (by rw [z]; exact hb))]; exact h1
  | [], _ :: _, _, _, _, r => r.elim
  | _ :: _, [], _, _, _, r => r.elim
theorem En.getLL (E : En K G₀ H₀ G H σ sls) {i : Nat} {xss : List (List PyData)} (h : sls[i]? = some (.ll xss)) : ∃ a as, σ[i]? = some (some (.ref a)) ∧ G a = none ∧ H a = some (.lst (as.map V.ref)) ∧ (a :: as).Nodup ∧ Rows K G H as xss ∧ ∀ b ∈ a :: as, H₀ b = none := by
  obtain ⟨fp, h1, _, h4⟩ := E.own
  obtain ⟨v, e, ok⟩ := (h1 i).to h (by simp)
  obtain ⟨a, as, e1, e2, n, ho, nd, r⟩ := ok
  subst e2
  exact ⟨a, as, e, n, ho, nd, r, fun b hb => h4 i b (by rw [e1]; exact hb)⟩
theorem En.putLL (E : En K G₀ H₀ G H σ sls) {i n : Nat} {xss : List (List PyData)} {a b : Addr} {as : List Addr} {ws : List V} {ys : List PyData} (h : sls[i]? = some (.ll xss)) (hv : σ[i]? = some (some (.ref a))) (ha : H a = some (.lst (as.map V.ref))) (hb : as[n]? = some b) (hy : DdAll K G ws ys) :
    En K G₀ H₀ G (L2.upd H b (.lst ws)) σ (sls.set i (.ll (xss.set n ys))) := by
  have hi : i < sls.length := (List.getElem?_eq_some_iff.mp h).1
  obtain ⟨a', as', e, gn, ha', nd, r, h0⟩ := E.getLL h
  rw [hv] at e
  cases e
  rw [ha] at ha'
  have eas : as = as' := by
    have q := HO.lst.inj (Option.some.inj ha')
    exact (List.map_inj_right (fun x y z => V.ref.inj z)).mp q
  subst eas
  have hbm : b ∈ as := List.mem_of_getElem? hb
  have hba : b ≠ a := fun z => (List.nodup_cons.mp nd).1 (by rw [← z]; exact hbm)
  have gb : G b = none := (r.free b hbm).1
  have q := E.upd (v := .ref a) (s := .ll (xss.set n ys)) hi (Ex.refl G) (G' := G) (H' := L2.upd H b (.lst ws)) ⟨E.gw.g, E.gw.h.put (h0 b (List.mem_cons_of_mem _ hbm)), E.s.put gb, E.gw.m⟩ fun fi hf => by
    obtain ⟨v, e, a2, as2, e1, e2, _, ha2, _⟩ := hf.to h (by simp)
    rw [hv] at e
    cases e
    cases e2
    rw [ha] at ha2
    have eas : as = as2 := (List.map_inj_right (fun x y z => V.ref.inj z)).mp (HO.lst.inj (Option.some.inj ha2))
    subst eas
    subst e1
    exact ⟨fun c o nc hc => by rw [upd_ne (show c ≠ b from fun z => nc (by rw [z]; exact List.mem_cons_of_mem _ hbm))]; exact hc, fun _ _ _ _ _ h => h, a :: as, ⟨a, as, rfl, rfl, gn, by rw [upd_ne (Ne.symm hba)]; exact ha, nd, Rows.set hy (List.nodup_cons.mp nd).2 hb r⟩, fun c hc => .inl hc⟩
  have es : σ.set i (some (.ref a)) = σ := by
    apply List.ext_getElem?
    intro j
    by_cases z : i = j
    · subst z
      rw [List.getElem?_set_self (by rw [E.len]; exact hi), hv]
    · rw [List.getElem?_set_ne z]
  rw [es] at q
  exact q
theorem Rows.frz : ∀ {as : List Addr} {xss : List (List PyData)}, Rows K G H as xss → (g : Ex G G') → (∀ a ∈ as, G' a = H a) → DdAll K G' (as.map V.ref) (xss.map PyData.list)
  | [], [], _, _, _ => .nil
  | a :: as, xs :: xss, ⟨n, ⟨vs, h1, h2⟩, r⟩, g, k => .cons (.lst (SqL.of (by rw [k a List.mem_cons_self]; exact h1)) (dpAll_mono g xs h2)) (Rows.frz r g fun b hb => k b (List.mem_cons_of_mem _ hb))
  | [], _ :: _, r, _, _ => r.elim
  | _ :: _, [], r, _, _ => r.elim
theorem En.frzLL (E : En K G₀ H₀ G H σ sls) {i : Nat} {xss : List (List PyData)} (h : sls[i]? = some (.ll xss)) : ∃ G', Ex G G' ∧ En K G₀ H₀ G' H σ (sls.set i (.d (.list (xss.map PyData.list)))) := by
  have hi : i < sls.length := (List.getElem?_eq_some_iff.mp h).1
  obtain ⟨a, as, hv, gn, ha, nd, r, h0⟩ := E.getLL h
  classical
  have inG : ∀ b ∈ a :: as, G b = none ∧ ∃ o, H b = some o ∧ NT o := fun b hb => by
    rcases List.mem_cons.mp hb with z | z
    · subst z; exact ⟨gn, _, ha, .lst⟩
    · exact r.free b z
  have eg : Ex G (fun b => if b ∈ a :: as then H b else G b) := fun b o hb => by
    have nb : b ∉ a :: as := fun z => by rw [(inG b z).1] at hb; cases hb
    simp only [if_neg nb]; exact hb
  refine ⟨fun b => if b ∈ a :: as then H b else G b, eg, ?_⟩
  have q := E.upd (v := .ref a) (s := .d (.list (xss.map PyData.list))) hi eg (G' := fun b => if b ∈ a :: as then H b else G b) (H' := H) ⟨E.gw.g.trans eg, E.gw.h, fun b o hb => ?_, fun b o hb t n => ?_⟩ fun fi hf => by
    obtain ⟨v, e, a2, as2, e1, e2, _, ha2, _⟩ := hf.to h (by simp)
    rw [hv] at e
    cases e
    cases e2
    rw [ha] at ha2
    have eas : as = as2 := (List.map_inj_right (fun x y z => V.ref.inj z)).mp (HO.lst.inj (Option.some.inj ha2))
    subst eas
    subst e1
    refine ⟨fun _ _ _ h => h, fun b o nb hb _ n => by simp only [if_neg nb]; exact n, [], ⟨rfl, .lst (SqL.of ?_) (r.frz eg fun b hb => by simp only [if_pos (List.mem_cons_of_mem a hb)])⟩, fun b hb => by cases hb⟩
    simp only [if_pos (List.mem_cons_self (a := a) (l := as))]; exact ha
  · have es : σ.set i (some (.ref a)) = σ := by
      apply List.ext_getElem?
      intro j
      by_cases z : i = j
      · subst z
        rw [List.getElem?_set_self (by rw [E.len]; exact hi), hv]
      · rw [List.getElem?_set_ne z]
    rw [es] at q
    exact q
  · by_cases nb : b ∈ a :: as
    · simp only [if_pos nb] at hb; exact hb
    · simp only [if_neg nb] at hb; exact E.s b o hb
  · have nb : b ∉ a :: as := fun z => by rw [h0 b z] at hb; cases hb
    simp only [if_neg nb]; exact E.gw.m b o hb t n
end
section
variable {X : Cx} {a b e ew ep : Expr} {ss : List Stmt} {s0 s1 s2 : List Sl} {d z : PyData} {xss : List (List PyData)} {xs : List PyData} {pos p p2 p3 : Pos} {i w n : Nat} {x : Str} {r : Res}
theorem sv_frzLL (hi : s0[i]? = some (.ll xss)) (h : Sv X ss (s0.set i (.d (.list (xss.map PyData.list)))) r) : Sv X ss s0 r := .mk fun E D k => by
  obtain ⟨G', g, E'⟩ := E.frzLL hi
  exact h E' D (k.back g)
/-- an expression that reads data and leaves the heap as it is -/
structure EvQ (X : Cx) (e : Expr) (sl : List Sl) (d : PyData) : Prop where
  run : ∀ {G₀ H₀ G H : Hp} {σ : L2.St}, En X.K G₀ H₀ G H σ sl → ∀ Q : VK, (∀ v, Dd X.K G v d → Q v H) → W X e σ H Q
instance {X : Cx} {e : Expr} {sl : List Sl} {d : PyData} : CoeFun (EvQ X e sl d) (fun _ => ∀ {G₀ H₀ G H : Hp} {σ : L2.St}, En X.K G₀ H₀ G H σ sl → ∀ Q : VK, (∀ v, Dd X.K G v d → Q v H) → W X e σ H Q) := ⟨fun h => h.run⟩
theorem eq_var {i : Nat} {x : Str} (h : s0[i]? = some (.d d)) (hN : X.N[i]? = some x) (hv : Vis X.env.scope x := by first | exact Or.inl rfl | exact Or.inr (Or.inl rfl) | exact Or.inr (Or.inr rfl))
    (hd : (x == ("__debug__" : Str)) = false := by decide) (hcd : (x == ("__classdict__" : Str)) = false := by decide) : EvQ X (.Name x pos) s0 d := .mk fun {G₀ H₀ G H σ} E Q q => by
  obtain ⟨v, e, r⟩ := E.get h
  exact W.of (pe_var hN hv hd hcd) ⟨v, e, q v r⟩
theorem eq_int {i : Int} {j : Nat} : EvQ X (.Constant (.int i) j pos) s0 (.int i) := .mk fun {G₀ H₀ G H σ} E Q q => W.of pe_int (q _ (.int i))
theorem eq_ixT {ds : List PyData} {k : Int} (ha : EvQ X a s0 (.tuple ds)) (hb : EvQ X b s0 (.int k)) (h : atI ds k = some d) (hs : PlainIx b := by intro _ _; rfl) : EvQ X (.Subscript a b pos) s0 d := .mk fun E Q q =>
  W.of (pe_ix ix_tup pe_W pe_W hs) (ha E _ fun v r1 => hb E _ fun w r2 => by
    cases r2
    cases r1 with
    | tup sl r =>
      obtain ⟨v, e, rv⟩ := atI_dp r h
      exact ⟨_, _, k, v, rfl, rfl, SqT.of (E.s _ _ sl), e, q v rv⟩)
/-- x[w][n] = e -/
theorem st_setLL (hN : X.N[i]? = some x) (he : Ev X e s0 s1 d) (h1 : s1[i]? = some (.ll xss)) (hw : EvQ X ew s1 (.int (w : Nat))) (hp : EvQ X ep s1 (.int (n : Nat))) (hx : xss[w]? = some xs) (hn : n < xs.length) (hv : Vis X.env.scope x := by first | exact Or.inl rfl | exact Or.inr (Or.inl rfl) | exact Or.inr (Or.inr rfl))
    (hd : (x == ("__debug__" : Str)) = false := by decide) (hcd : (x == ("__classdict__" : Str)) = false := by decide) (hpl : PlainIx ew := by intro _ _; rfl)
    (ha : ∀ v, assign (.Subscript (.Subscript (.Name x p) ew p2) ep p3) X.env v = (do
      let ov ← holding [v] (eval (.Subscript (.Name x p) ew p2) X.env)
      let iv ← holding [v, ov] (eval ep X.env)
      standAt p3
      holding [v, ov, iv] (setItem ov iv v)
      release [v, ov, iv] []) := by intro _; rfl)
    (hs : swapsWithSole [.Subscript (.Subscript (.Name x p) ew p2) ep p3] e pos.line X.env = pure false := by rfl) (hsw : swappedStores [.Subscript (.Subscript (.Name x p) ew p2) ep p3] e X.env = pure none := by rfl)
    (h1a : (assignEach [.Subscript (.Subscript (.Name x p) ew p2) ep p3] X.env).map (·.2) = [assign (.Subscript (.Subscript (.Name x p) ew p2) ep p3) X.env] := by rfl) :
    St1 X (.Assign [.Subscript (.Subscript (.Name x p) ew p2) ep p3] e pos) s0 (.nx (s1.set i (.ll (xss.set w (xs.set n d))))) := .mk fun {G₀ H₀ G H σ} E D kk => by
  refine WS.of (ps_asg pe_W (pg_sub (pe_ix ix_list (pe_var hN hv hd hcd) pe_W hpl) pe_W set_list ha) hs hsw h1a) (he E _ fun v G1 H1 E1 g1 r1 => ?_)
  obtain ⟨l, as, hσ, gn, hl, nd, rows, _⟩ := E1.getLL h1
  refine ⟨_, hσ, hw E1 _ fun vw r2 => ?_⟩
  cases r2
  obtain ⟨c, vs, hc, gc, hHc, rvs⟩ := rows.get hx
  refine ⟨l, as.map V.ref, (w : Nat), .ref c, rfl, rfl, SqL.of hl, at_nat (by rw [List.getElem?_map, hc]; rfl), ?_⟩
  refine hp E1 _ fun vp r3 => ?_
  cases r3
  have hlen := dpAll_len rvs
  have hcl : ¬ ((n : Int) < 0) := by omega
  refine ⟨c, vs, (n : Nat), n, rfl, rfl, hHc, ?_, ?_⟩
  · rw [hlen]
    unfold ixN
    rw [if_pos (by omega), if_pos (by omega)]
    simp
  · exact kk σ G1 _ (E1.putLL h1 hσ hl hc (dpAll_set r1 n rvs)) g1
end
end Ewl
-- DL15
set_option Elab.async false
set_option linter.all false
set_option maxRecDepth 100000
set_option maxHeartbeats 2000000
/-! enumerate and zip over tuples. -/
namespace Ewl
open PySem L2 RZ
open Sem (wp)
set_option maxHeartbeats 4000000 in
theorem meets_enum1 {v : Value} {o : Obj} {H : Heap → Prop} (B : Begins v o H) :
    Meets (Builtin.«enumerate.__new__» ⟨[.type "enumerate", v], []⟩) (fun _ R s => H s.heap ∧
      R (.ok (.ret (.ref (s.heap.push o).objs.size))) { s with heap := (s.heap.push o).push { cls := .type "enumerate", data := .fields #[.none, .bool false, .ref s.heap.objs.size, rawInt 0, .none, .none] } }) :=
  .of_wp fun prog w A R s h => by
    obtain ⟨hp, g, d, tk, os⟩ := s; obtain ⟨h1, h⟩ := h
    have hsub := sub_enumerate
    have q1 : ∀ {A' : Around} {E : Value → Shared → Prop} {Q : Value → Shared → Prop}, Q (.ref hp.objs.size) ⟨hp.push o, g, d, tk, os⟩ → wpAny (model prog w) A' (pyIter v) Q E ⟨hp, g, d, tk, os⟩ :=
      fun q => B.iter prog w _ _ ⟨hp, g, d, tk, os⟩ _ h1 q
    wp_walk using q1
    refine wpAny_stack_any fun st => wpAny_pure ?_
    split
    · rename_i c _ _ _ _ _
      cases (c == Value.type "enumerate")
      · wp_walk using q1
        exact ⟨_, rfl, h⟩
      · wp_walk using q1
        exact ⟨_, rfl, h⟩
    · wp_walk using q1
      exact ⟨_, rfl, h⟩
theorem call_enum1 {prog : Program} {w : World} {A : Around} {E : Value → Shared → Prop} {s : Shared} {v : Value} {o : Obj} {H : Heap → Prop} {Q : Value → Shared → Prop} (B : Begins v o H) (h1 : H s.heap)
    (h : ∀ h', IsEnum h' (s.heap.objs.size + 1) s.heap.objs.size 0 .none → h'.get? s.heap.objs.size = some o → h'.objs.size = s.heap.objs.size + 2 →
      (∀ b o, s.heap.get? b = some o → h'.get? b = some o) → Q (.ref (s.heap.objs.size + 1)) { s with heap := h' }) :
    wpAny (model prog w) A (call (.type "enumerate") [v]) Q E s := by
  refine callType_new F.called_enumerate (by decide) (F.typeCall_enumerate_1 _) (F.newCall_enumerate_1 _) (fun obj => F.args_object_init_2 obj _) F.entry_enumerate_new
    (meets_enum1 B) ⟨h1, ?_⟩
  have hz : (s.heap.push o).objs.size = s.heap.objs.size + 1 := Heap.size_push ..
  show _ ∧ _
  rw [hz]
  have he : IsEnum ((s.heap.push o).push { cls := .type "enumerate", data := .fields #[.none, .bool false, .ref s.heap.objs.size, rawInt 0, .none, .none] }) (s.heap.objs.size + 1) s.heap.objs.size 0 .none := by
    have := Heap.get?_push_size (s.heap.push o) (o := { cls := .type "enumerate", data := .fields #[.none, .bool false, .ref s.heap.objs.size, rawInt 0, .none, .none] }) rfl
    rw [hz] at this; exact this
  refine ⟨⟨_, he, rfl⟩, h _ he (Heap.get?_push_of_some _ (Heap.get?_push_size _ B.free)) (by rw [Heap.size_push, hz]) fun b o x => Heap.get?_push_of_some _ (Heap.get?_push_of_some _ x)⟩

/-- a tuple's items, counted -/
def IteT (K : PySem.W.Frag) (a : Addr) : It :=
  ⟨fun i H => ∃ (xs : List V) (x : V), SqT K H a xs ∧ xs[i]? = some x, fun i H v H' => ∃ T x, v = .ref T ∧ H T = none ∧ H' = upd H T (.tup [.int (i : Nat), x]) ∧ ∀ xs, SqT K H a xs → xs[i]? = some x, fun i H => ∃ xs : List V, SqT K H a xs ∧ xs.length = i⟩
theorem turn_enumT {P : Program} {w : World} {K : PySem.W.Frag} {elts : List Expr} {kk : Nat} {tpos : Pos} (a e it : Addr) (D : a ≠ it ∧ a ≠ e) :
    Turn P w K (.Tuple elts kk tpos) (IteT K a) [e, it] e (fun i h => (∃ old, IsEnum h e it ((i : Nat) : Int) old) ∧ h.IsTupleIter it a i ∧ e ≠ it) where
  mem := by simp
  obj := fun i h st b hb => by
    obtain ⟨⟨old, he⟩, ⟨o, ho, hc, hd⟩, _⟩ := st
    have e' : b = e ∨ b = it := by simpa using hb
    rcases e' with z | z
    · rw [z]; exact ⟨_, he, fun v q => nomatch q⟩
    · rw [z]; exact ⟨o, ho, fun v q => by rw [hd] at q; cases q⟩
  keep := fun i h h' st k => let ⟨⟨old, he⟩, hi, hne⟩ := st; ⟨⟨old, k e (by simp) _ he⟩, hi.at fun o q => k it (by simp) o q, hne⟩
  item := by
    intro X hP hw hK hc i pins s σ H E I hf st hg
    subst hP hw hK
    obtain ⟨⟨old, he⟩, hit, hne⟩ := st
    obtain ⟨xs, x, hq, hx⟩ := hg
    obtain ⟨its, rv, p, hz⟩ := I.tuple hq
    obtain ⟨u, hu, ru⟩ := rv.get hx
    have hel : e < s.heap.objs.size := Heap.lt_size he
    have hil : it < s.heap.objs.size := by obtain ⟨_, q, _⟩ := hit; exact Heap.lt_size q
    have hlt : i < its.toArray.size := by
      have := (List.getElem?_eq_some_iff.mp hu).1
      simpa using this
    refine wpAny_pyNext_enum_itemC (Draws.tuple (A := X.A.in1) (I.ok.hd hc) it a D.1 its.toArray) he ⟨hit, p⟩ hlt hne (by simp [hne, Ne.symm D.2]) fun x' h' tk hx' ho ⟨hit', _⟩ hT hsz hk => ?_
    have ex' : x' = u := by
      have : its.toArray[i]? = some u := by simpa using hu
      rw [this] at hx'; exact (Option.some.inj hx').symm
    subst ex'
    refine ⟨_, rfl, wpAny_letOwnedTupleGo_enum (s := { s with heap := h', toks := tk + 1 }) ho fun h'' he' sb => ?_⟩
    have hT2 : h''.get? s.heap.objs.size = some { cls := .type "tuple", data := .seq #[.int i tk, x'] } := (sb.2 _ (Nat.ne_of_gt hel)).trans hT
    have new : ObjOk X.prog X.w (upd H s.heap.objs.size (.tup [.int (i : Nat), x])) h'' s.heap.objs.size (.tup [.int (i : Nat), x]) :=
      ⟨by show 2 ≤ sizeLine; decide, [.int i tk, x'], .cons ⟨_, rfl⟩ (.cons ru .nil), ⟨_, hT2, rfl, _, rfl⟩⟩
    have I1 : Inv X pins σ (upd H s.heap.objs.size (.tup [.int (i : Nat), x])) { s with heap := h'', toks := tk + 1 } :=
      I.turnedNew (ch := [e, it]) (fun b ob hb q => (sb.2 b (fun z => hb (by simp [z]))).trans (hk b ob (fun z => hb (by simp [z])) (fun z => hb (by simp [z])) q)) hf (Nat.le_refl _) new
    refine ⟨.ref s.heap.objs.size, _, I1, rfl, ⟨_, x, rfl, I.hok.fresh (Nat.le_refl _), rfl, fun ys hy => by rw [I.tuple_inj hy hq]; exact hx⟩, ⟨⟨x', ?_⟩, hit'.at fun o q => (sb.2 it (Ne.symm hne)).trans q, hne⟩, fun b hb => ?_⟩
    · have e1 : ((i + 1 : Nat) : Int) = (i : Int) + 1 := by omega
      rw [e1]; exact he'
    · have hb' : b < s.heap.objs.size := by
        have e' : b = e ∨ b = it := by simpa using hb
        rcases e' with z | z
        · rw [z]; exact hel
        · rw [z]; exact hil
      rw [upd_ne (Nat.ne_of_lt hb')]
      exact (hf b hb).1
  done := by
    intro X hP hw hK hc i pins s σ H E I hf st hg
    subst hP hw hK
    obtain ⟨⟨old, he⟩, hit, hne⟩ := st
    obtain ⟨xs, hq, hx⟩ := hg
    obtain ⟨its, rv, p, hz⟩ := I.tuple hq
    obtain ⟨f0, f1, f2, f3, f4, f5⟩ := hf it (by simp)
    have hl := rv.length
    have hi : i = its.toArray.size := by simp; omega
    subst hi
    exact wpAny_pyNext_enum_endD (Draws.tuple (A := X.A.in1) (I.ok.hd hc) it a D.1 its.toArray) he ⟨hit, p⟩ fun h' eb => ⟨rfl, I.turned (t' := s.toks) (fun b o hb q => eb b o hb q) f0 f1 f3 f4 f5⟩
  self := fun A i s Q E st h => let ⟨⟨_, he⟩, _⟩ := st; wpAny_pyIter_enum he h
def iEnumT (K : PySem.W.Frag) (ta : TA) : TI := fun σ H R => ta σ H fun vs H1 => ∃ a xs, vs = [.ref a] ∧ SqT K H1 a xs ∧ R (IteT K a) H1
theorem pi_enumT {X : Cx} {e : Expr} {ta : TA} {p pos tpos : Pos} {elts : List Expr} {kk : Nat} (hg : Gl X "enumerate") (hm : X.mg "enumerate" = none) (ha : PA X [e] ta) (hs : starEach [e] X.env = [(false, eval e X.env)] := by rfl) :
    PI X (.Tuple elts kk tpos) (.Call (.Name "enumerate" p) [e] [] pos) (iEnumT X.K ta) := by
  refine ⟨fun pins s σ H R I h => ?_⟩
  refine PyProof.Rows.Call_ (ld_blt I hg hm PyProof.Rows.boot_enumerate (PyProof.Rows.callWith_type1 (thn (ha.run pos pins s σ H _ I h) fun us s1 ⟨vs, H1, I1, r1, q1⟩ => ?_) hs rfl))
  obtain ⟨a, xs, ex, hq, q⟩ := q1
  subst ex
  cases r1 with
  | cons r rr =>
    cases rr
    cases r
    obtain ⟨its, rv, p', hz⟩ := I1.tuple hq
    obtain ⟨oa, hoa, _⟩ := id p'
    have hlt : a < s1.heap.objs.size := Heap.lt_size hoa
    refine call_enum1 (begins_tuple a its.toArray) p' fun h' he hit hsz hk => wpAny_pyIter_enum he ?_
    have I2 : Inv X pins σ H1 { s1 with heap := h' } := I1.kept (t' := s1.toks) hk
    refine ⟨s1.heap.objs.size + 1, [s1.heap.objs.size + 1, s1.heap.objs.size], _, _, H1, rfl, I2, turn_enumT a (s1.heap.objs.size + 1) s1.heap.objs.size ⟨Nat.ne_of_lt hlt, Nat.ne_of_lt (Nat.lt_succ_of_lt hlt)⟩, ⟨⟨.none, he⟩, ⟨_, hit, rfl, rfl⟩, Nat.succ_ne_self _⟩, fun b hb => ?_, q⟩
    have e' : b = s1.heap.objs.size + 1 ∨ b = s1.heap.objs.size := by simpa using hb
    have hle : s1.heap.objs.size ≤ b := by
      rcases e' with z | z
      · rw [z]; exact Nat.le_add_right _ _
      · rw [z]; exact Nat.le_refl _
    exact I1.fpOk hle (I1.hok.fresh hle)

/-- three tuples, item by item -/
def Itz3 (K : PySem.W.Frag) (a b c : Addr) : It :=
  ⟨fun i H => ∃ (xs ys zs : List V) (x y z : V), SqT K H a xs ∧ SqT K H b ys ∧ SqT K H c zs ∧ xs[i]? = some x ∧ ys[i]? = some y ∧ zs[i]? = some z,
    fun i H v H' => ∃ T x y z, v = .ref T ∧ H T = none ∧ H' = upd H T (.tup [x, y, z]) ∧ (∀ xs, SqT K H a xs → xs[i]? = some x) ∧ (∀ ys, SqT K H b ys → ys[i]? = some y) ∧ ∀ zs, SqT K H c zs → zs[i]? = some z,
    fun i H => ∃ xs ys zs : List V, SqT K H a xs ∧ SqT K H b ys ∧ SqT K H c zs ∧ xs.length = i ∧ ys.length = i ∧ zs.length = i⟩
theorem turn_zip3 {P : Program} {w : World} {K : PySem.W.Frag} {elts : List Expr} {kk : Nat} {tpos : Pos} {a b c z TI TO i1 i2 i3 : Addr} (S : ZipSep3 z TI TO i1 i2 i3 [i1, a] [i2, b] [i3, c]) (d1 : a ≠ i1) (d2 : b ≠ i2) (d3 : c ≠ i3) :
    Turn P w K (.Tuple elts kk tpos) (Itz3 K a b c) [z, TI, TO, i1, i2, i3] z (fun i h => IsZip h z TI TO .none ∧ IsTupOf3 h TI (.ref i1) (.ref i2) (.ref i3) ∧ (∃ x y u, IsTupOf3 h TO x y u) ∧ h.IsTupleIter i1 a i ∧ h.IsTupleIter i2 b i ∧ h.IsTupleIter i3 c i) where
  mem := by simp
  obj := fun i h st q hq => by
    obtain ⟨hz, hTI, ⟨x, y, u, hTO⟩, ⟨o1, e1, _, d1⟩, ⟨o2, e2, _, d2⟩, ⟨o3, e3, _, d3⟩⟩ := st
    have e' : q = z ∨ q = TI ∨ q = TO ∨ q = i1 ∨ q = i2 ∨ q = i3 := by simpa using hq
    rcases e' with q | q | q | q | q | q
    · rw [q]; exact ⟨_, hz, fun v q => nomatch q⟩
    · rw [q]; exact ⟨_, hTI, fun v q => nomatch q⟩
    · rw [q]; exact ⟨_, hTO, fun v q => nomatch q⟩
    · rw [q]; exact ⟨o1, e1, fun v q => by rw [d1] at q; cases q⟩
    · rw [q]; exact ⟨o2, e2, fun v q => by rw [d2] at q; cases q⟩
    · rw [q]; exact ⟨o3, e3, fun v q => by rw [d3] at q; cases q⟩
  keep := fun i h h' st k => by
    obtain ⟨hz, hTI, ⟨x, y, u, hTO⟩, h1, h2, h3⟩ := st
    exact ⟨k z (by simp) _ hz, k TI (by simp) _ hTI, ⟨x, y, u, k TO (by simp) _ hTO⟩, h1.at fun o q => k i1 (by simp) o q, h2.at fun o q => k i2 (by simp) o q, h3.at fun o q => k i3 (by simp) o q⟩
  item := by
    intro X hP hw hK hc i pins s σ H E I hf st hg
    subst hP hw hK
    obtain ⟨hz, hTI, ⟨x0, y0, u0, hTO⟩, h1, h2, h3⟩ := st
    obtain ⟨xs, ys, zs, x, y, u, hqx, hqy, hqz, hx, hy, hu⟩ := hg
    obtain ⟨its, rv, p, _⟩ := I.tuple hqx
    obtain ⟨its2, rv2, p2, _⟩ := I.tuple hqy
    obtain ⟨its3, rv3, p3, _⟩ := I.tuple hqz
    obtain ⟨v1, hv1, ru1⟩ := rv.get hx
    obtain ⟨v2, hv2, ru2⟩ := rv2.get hy
    obtain ⟨v3, hv3, ru3⟩ := rv3.get hu
    have hzl : z < s.heap.objs.size := Heap.lt_size hz
    have sz : ∀ {l : List Value} {v : Value}, l[i]? = some v → i < l.toArray.size := fun e => by
      have := (List.getElem?_eq_some_iff.mp e).1
      simpa using this
    have eqv : ∀ {l : List Value} {v x : Value}, l[i]? = some v → l.toArray[i]? = some x → x = v := fun e e' => by
      have : _ = some _ := e'
      rw [List.getElem?_toArray, e] at this
      exact (Option.some.inj this).symm
    refine wpAny_pyNext_zipD3_item S (Draws.tuple (A := X.A.in1) (I.ok.hd hc) i1 a d1 its.toArray) (Draws.tuple (A := X.A.in1) (I.ok.hd hc) i2 b d2 its2.toArray) (Draws.tuple (A := X.A.in1) (I.ok.hd hc) i3 c d3 its3.toArray)
      hz hTI hTO ⟨h1, p⟩ ⟨h2, p2⟩ ⟨h3, p3⟩ (sz hv1) (sz hv2) (sz hv3) fun x1 x2 x3 h' tk y1 y2 y3 z' TO' ⟨h1', _⟩ ⟨h2', _⟩ ⟨h3', _⟩ hT hsz hk => ?_
    have e1 := eqv hv1 y1
    have e2 := eqv hv2 y2
    have e3 := eqv hv3 y3
    subst e1 e2 e3
    refine ⟨_, rfl, wpAny_letOwnedTupleGo_zip (s := { s with heap := h', toks := tk }) z' fun h'' z'' sb => ?_⟩
    have hT2 : h''.get? s.heap.objs.size = some { cls := .type "tuple", data := .seq #[x1, x2, x3] } := (sb.2 _ (Nat.ne_of_gt hzl)).trans hT
    have new : ObjOk X.prog X.w (upd H s.heap.objs.size (.tup [x, y, u])) h'' s.heap.objs.size (.tup [x, y, u]) :=
      ⟨by show 3 ≤ sizeLine; decide, [x1, x2, x3], .cons ru1 (.cons ru2 (.cons ru3 .nil)), ⟨_, hT2, rfl, _, rfl⟩⟩
    have I1 : Inv X pins σ (upd H s.heap.objs.size (.tup [x, y, u])) { s with heap := h'', toks := tk } :=
      I.turnedNew (t' := tk) (ch := [z, TI, TO, i1, i2, i3]) (fun c o hb q => (sb.2 c (fun q' => hb (by simp [q']))).trans (hk c o (fun q' => hb (by simp [q'])) (fun q' => hb (by simp [q'])) (fun q' => hb (by simp [q'])) (fun q' => hb (by simp [q'])) (fun q' => hb (by simp [q'])) q)) hf (Nat.le_refl _) new
    refine ⟨.ref s.heap.objs.size, _, I1, rfl, ⟨_, x, y, u, rfl, I.hok.fresh (Nat.le_refl _), rfl, fun l hl => by rw [I.tuple_inj hl hqx]; exact hx, fun l hl => by rw [I.tuple_inj hl hqy]; exact hy, fun l hl => by rw [I.tuple_inj hl hqz]; exact hu⟩, ⟨z'', ?_, ⟨x1, x2, x3, ?_⟩, ?_, ?_, ?_⟩, fun c hcm => ?_⟩
    · exact (sb.2 _ S.TIz).trans (hk _ _ S.TIz S.TITO S.TIi1 S.TIi2 S.TIi3 hTI)
    · exact (sb.2 _ S.TOz).trans TO'
    · exact h1'.at fun o q => (sb.2 _ (Ne.symm S.zi1)).trans q
    · exact h2'.at fun o q => (sb.2 _ (Ne.symm S.zi2)).trans q
    · exact h3'.at fun o q => (sb.2 _ (Ne.symm S.zi3)).trans q
    · have hlt : c < s.heap.objs.size := by
        have e' : c = z ∨ c = TI ∨ c = TO ∨ c = i1 ∨ c = i2 ∨ c = i3 := by simpa using hcm
        rcases e' with q | q | q | q | q | q
        · rw [q]; exact hzl
        · rw [q]; exact Heap.lt_size hTI
        · rw [q]; exact Heap.lt_size hTO
        · rw [q]; obtain ⟨_, e1, _⟩ := h1; exact Heap.lt_size e1
        · rw [q]; obtain ⟨_, e2, _⟩ := h2; exact Heap.lt_size e2
        · rw [q]; obtain ⟨_, e3, _⟩ := h3; exact Heap.lt_size e3
      rw [upd_ne (Nat.ne_of_lt hlt)]
      exact (hf c hcm).1
  done := by
    intro X hP hw hK hc i pins s σ H E I hf st hg
    subst hP hw hK
    obtain ⟨hz, hTI, ⟨x0, y0, u0, hTO⟩, h1, h2, h3⟩ := st
    obtain ⟨xs, ys, zs, hqx, hqy, hqz, l1, l2, l3⟩ := hg
    obtain ⟨its, rv, p, _⟩ := I.tuple hqx
    obtain ⟨its2, rv2, p2, _⟩ := I.tuple hqy
    obtain ⟨its3, rv3, p3, _⟩ := I.tuple hqz
    have m1 := rv.length
    have m2 := rv2.length
    have m3 := rv3.length
    exact wpAny_pyNext_zipD3_end S (Draws.tuple (A := X.A.in1) (I.ok.hd hc) i1 a d1 its.toArray) (Draws.tuple (A := X.A.in1) (I.ok.hd hc) i2 b d2 its2.toArray) (Draws.tuple (A := X.A.in1) (I.ok.hd hc) i3 c d3 its3.toArray)
      hz hTI hTO ⟨h1, p⟩ ⟨h2, p2⟩ ⟨h3, p3⟩ (by simp; omega) (by simp; omega) (by simp; omega) (.inl (by simp; omega)) fun h' tk hk => ⟨rfl, I.turnedL (t' := tk) (ch := [z, TI, TO, i1, i2, i3]) (fun c o hb q =>
        hk c o (fun q' => hb (by simp [q'])) (fun q' => hb (by simp [q'])) (fun q' => hb (by simp [q'])) (fun q' => hb (by simp [q'])) (fun q' => hb (by simp [q'])) q) hf⟩
  self := fun A i s Q E st h => wpAny_pyIter_zip st.1 h
def iZip3 (K : PySem.W.Frag) (ta : TA) : TI := fun σ H R => ta σ H fun vs H1 => ∃ a b c xs ys zs, vs = [.ref a, .ref b, .ref c] ∧ SqT K H1 a xs ∧ SqT K H1 b ys ∧ SqT K H1 c zs ∧ R (Itz3 K a b c) H1
theorem pi_zip3 {X : Cx} {e e2 e3 : Expr} {ta : TA} {p pos tpos : Pos} {elts : List Expr} {kk : Nat} (hg : Gl X "zip") (hm : X.mg "zip" = none) (ha : PA X [e, e2, e3] ta)
    (hs : starEach [e, e2, e3] X.env = (false, eval e X.env) :: starEach [e2, e3] X.env := by rfl) (hpl : (backTo pos (starEach [e2, e3] X.env)).any (·.1) = false := by rfl) :
    PI X (.Tuple elts kk tpos) (.Call (.Name "zip" p) [e, e2, e3] [] pos) (iZip3 X.K ta) := by
  refine ⟨fun pins s σ H R I h => ?_⟩
  refine PyProof.Rows.Call_ (ld_blt I hg hm PyProof.Rows.boot_zip (PyProof.Rows.callWith_type1 (thn (ha.run pos pins s σ H _ I h) fun us s1 ⟨vs, H1, I1, r1, q1⟩ => ?_) hs hpl))
  obtain ⟨a, b, c, xs, ys, zs, ex, hqx, hqy, hqz, q⟩ := q1
  subst ex
  cases r1 with
  | cons r rr =>
    cases rr with
    | cons r' rr =>
      cases rr with
      | cons r'' rr =>
        cases rr
        cases r
        cases r'
        cases r''
        obtain ⟨its, rv, p1, _⟩ := I1.tuple hqx
        obtain ⟨its2, rv2, p2, _⟩ := I1.tuple hqy
        obtain ⟨its3, rv3, p3, _⟩ := I1.tuple hqz
        obtain ⟨o1, ho1, _⟩ := id p1
        obtain ⟨o2, ho2, _⟩ := id p2
        obtain ⟨o3, ho3, _⟩ := id p3
        have lt1 : a < s1.heap.objs.size := Heap.lt_size ho1
        have lt2 : b < s1.heap.objs.size := Heap.lt_size ho2
        have lt3 : c < s1.heap.objs.size := Heap.lt_size ho3
        refine zip_begins3 (begins_tuple a its.toArray) (begins_tuple b its2.toArray) (begins_tuple c its3.toArray) p1 p2 p3 fun h' hz hTI hTO g1 g2 g3 hsz hk => wpAny_pyIter_zip hz ?_
        have I2 : Inv X pins σ H1 { s1 with heap := h' } := I1.kept (t' := s1.toks) hk
        refine ⟨s1.heap.objs.size + 5, [s1.heap.objs.size + 5, s1.heap.objs.size + 3, s1.heap.objs.size + 4, s1.heap.objs.size, s1.heap.objs.size + 1, s1.heap.objs.size + 2], _, _, H1, rfl, I2,
          turn_zip3 (zip_sep3 (fp1 := [a]) (fp2 := [b]) (fp3 := [c]) (fun x hx => by rw [List.mem_singleton.mp hx]; exact lt1) (fun x hx => by rw [List.mem_singleton.mp hx]; exact lt2) (fun x hx => by rw [List.mem_singleton.mp hx]; exact lt3)) (Nat.ne_of_lt lt1) (Nat.ne_of_lt (Nat.lt_succ_of_lt lt2)) (Nat.ne_of_lt (Nat.lt_succ_of_lt (Nat.lt_succ_of_lt lt3))),
          ⟨hz, hTI, ⟨_, _, _, hTO⟩, ⟨_, g1, rfl, rfl⟩, ⟨_, g2, rfl, rfl⟩, ⟨_, g3, rfl, rfl⟩⟩, fun x hx => ?_, q⟩
        have hle : s1.heap.objs.size ≤ x := by
          have e' : x = s1.heap.objs.size + 5 ∨ x = s1.heap.objs.size + 3 ∨ x = s1.heap.objs.size + 4 ∨ x = s1.heap.objs.size ∨ x = s1.heap.objs.size + 1 ∨ x = s1.heap.objs.size + 2 := by simpa using hx
          rcases e' with z | z | z | z | z | z
          · rw [z]; exact Nat.le_add_right _ _
          · rw [z]; exact Nat.le_add_right _ _
          · rw [z]; exact Nat.le_add_right _ _
          · rw [z]; exact Nat.le_refl _
          · rw [z]; exact Nat.le_add_right _ _
          · rw [z]; exact Nat.le_add_right _ _
        exact I1.fpOk hle (I1.hok.fresh hle)

/-! ### over data -/
theorem enumD_get {xs : List PyData} {i : Nat} {x : PyData} (h : xs[i]? = some x) : (enumD 0 xs)[i]? = some (.tuple [.int (i : Nat), x]) := by
  have hi := (List.getElem?_eq_some_iff.mp h).1
  unfold enumD
  rw [zipD_get (rngD_get hi) h]
  simp
theorem enumD_len {xs : List PyData} : (enumD 0 xs).length = xs.length := by unfold enumD; rw [zipD_len, rngD_len]; simp
def zip3D (xs ys zs : List PyData) : List PyData := List.zipWith (fun x yz => .tuple [x, yz.1, yz.2]) xs (ys.zip zs)
theorem zip3D_get {xs ys zs : List PyData} {i : Nat} {x y z : PyData} (h1 : xs[i]? = some x) (h2 : ys[i]? = some y) (h3 : zs[i]? = some z) : (zip3D xs ys zs)[i]? = some (.tuple [x, y, z]) := by
  have : (ys.zip zs)[i]? = some (y, z) := by rw [List.getElem?_zip_eq_some]; exact ⟨h2, h3⟩
  simp [zip3D, List.getElem?_zipWith, h1, this]
theorem zip3D_len {xs ys zs : List PyData} : (zip3D xs ys zs).length = min xs.length (min ys.length zs.length) := by simp [zip3D]
theorem yl_enumT {K : PySem.W.Frag} {G : Hp} {a : Addr} {ds : List PyData} (h : Dd K G (.ref a) (.tuple ds)) : Yl K G (IteT K a) (enumD 0 ds) := by
  intro i G1 H1 e1 e2
  rw [enumD_len]
  cases h with
  | tup s r =>
    have sG : G1 a = some (.tup _) := e1 _ _ s
    have s1 : SqT K H1 a _ := SqT.of (e2 _ _ sG)
    refine ⟨fun hi => ?_, fun hi => ⟨_, s1, by rw [dpAll_len r, hi]⟩⟩
    obtain ⟨v, h1, h2⟩ := dpAll_get r (show ds[i]? = some ds[i] by simp [hi])
    refine ⟨⟨_, v, s1, h1⟩, fun x H2 y => ?_⟩
    obtain ⟨T, x', rfl, hT, rfl, y⟩ := y
    have e := y _ s1
    rw [h1] at e
    cases e
    exact ⟨L2.upd G1 T (.tup [.int (i : Nat), v]), _, enumD_get (show ds[i]? = some ds[i] by simp [hi]), .new e2 hT, .tup upd_same (.cons (.int _) (.cons (dp_mono (e1.trans (Ex.new (e2.back hT))) _ h2) .nil))⟩
theorem yl_enumL {K : PySem.W.Frag} {G : Hp} {a : Addr} {ds : List PyData} (h : Dd K G (.ref a) (.list ds)) : Yl K G (Ite K a) (enumD 0 ds) := by
  intro i G1 H1 e1 e2
  rw [enumD_len]
  cases h with
  | lst s r =>
    have s1 := ex_l (e1.trans e2) s
    refine ⟨fun hi => ?_, fun hi => ⟨_, s1, by rw [dpAll_len r, hi]; exact Nat.le_refl _⟩⟩
    obtain ⟨v, h1, h2⟩ := dpAll_get r (show ds[i]? = some ds[i] by simp [hi])
    refine ⟨⟨_, v, s1, h1⟩, fun x H2 y => ?_⟩
    obtain ⟨T, x', rfl, hT, rfl, y⟩ := y
    have e := y _ s1
    rw [h1] at e
    cases e
    exact ⟨L2.upd G1 T (.tup [.int (i : Nat), v]), _, enumD_get (show ds[i]? = some ds[i] by simp [hi]), .new e2 hT, .tup upd_same (.cons (.int _) (.cons (dp_mono (e1.trans (Ex.new (e2.back hT))) _ h2) .nil))⟩
theorem yl_zipT {K : PySem.W.Frag} {G : Hp} {a b : Addr} {ds es : List PyData} (hl : ds.length = es.length) (h : Dd K G (.ref a) (.tuple ds)) (h' : Dd K G (.ref b) (.tuple es)) : Yl K G (ItzT K a b) (zipD ds es) := by
  intro i G1 H1 e1 e2
  rw [zipD_len, ← hl, Nat.min_self]
  cases h with
  | tup s r =>
    cases h' with
    | tup s' r' =>
      have s1 : SqT K H1 a _ := SqT.of ((e1.trans e2) _ _ s)
      have s2 : SqT K H1 b _ := SqT.of ((e1.trans e2) _ _ s')
      refine ⟨fun hi => ?_, fun hi => ⟨_, _, s1, s2, .inl (by rw [dpAll_len r, hi]; exact Nat.le_refl _)⟩⟩
      obtain ⟨v, h1, h2⟩ := dpAll_get r (show ds[i]? = some ds[i] by simp [hi])
      have hi' : i < es.length := hl ▸ hi
      obtain ⟨v', h1', h2'⟩ := dpAll_get r' (show es[i]? = some es[i] by simp [hi'])
      refine ⟨⟨_, _, v, v', s1, s2, h1, h1'⟩, fun x H2 y => ?_⟩
      obtain ⟨T, x, x', rfl, hT, rfl, y, y'⟩ := y
      have e := y _ s1
      have e' := y' _ s2
      rw [h1] at e
      rw [h1'] at e'
      cases e
      cases e'
      exact ⟨L2.upd G1 T (.tup [v, v']), _, zipD_get (show ds[i]? = some ds[i] by simp [hi]) (show es[i]? = some es[i] by simp [hi']), .new e2 hT, .tup upd_same (.cons (dp_mono (e1.trans (Ex.new (e2.back hT))) _ h2) (.cons (dp_mono (e1.trans (Ex.new (e2.back hT))) _ h2') .nil))⟩
theorem yl_zip3 {K : PySem.W.Frag} {G : Hp} {a b c : Addr} {ds es fs : List PyData} (hl : ds.length = es.length) (hl2 : ds.length = fs.length) (h : Dd K G (.ref a) (.tuple ds)) (h' : Dd K G (.ref b) (.tuple es)) (h'' : Dd K G (.ref c) (.tuple fs)) : Yl K G (Itz3 K a b c) (zip3D ds es fs) := by
  intro i G1 H1 e1 e2
  rw [zip3D_len, ← hl, ← hl2, Nat.min_self, Nat.min_self]
  cases h with
  | tup s r =>
    cases h' with
    | tup s' r' =>
      cases h'' with
      | tup s'' r'' =>
        have s1 : SqT K H1 a _ := SqT.of ((e1.trans e2) _ _ s)
        have s2 : SqT K H1 b _ := SqT.of ((e1.trans e2) _ _ s')
        have s3 : SqT K H1 c _ := SqT.of ((e1.trans e2) _ _ s'')
        refine ⟨fun hi => ?_, fun hi => ⟨_, _, _, s1, s2, s3, by rw [dpAll_len r, hi], by rw [dpAll_len r', hi, hl], by rw [dpAll_len r'', hi, hl2]⟩⟩
        have hi' : i < es.length := hl ▸ hi
        have hi'' : i < fs.length := hl2 ▸ hi
        obtain ⟨v, h1, h2⟩ := dpAll_get r (show ds[i]? = some ds[i] by simp [hi])
        obtain ⟨v', h1', h2'⟩ := dpAll_get r' (show es[i]? = some es[i] by simp [hi'])
        obtain ⟨v'', h1'', h2''⟩ := dpAll_get r'' (show fs[i]? = some fs[i] by simp [hi''])
        refine ⟨⟨_, _, _, v, v', v'', s1, s2, s3, h1, h1', h1''⟩, fun x H2 y => ?_⟩
        obtain ⟨T, x, x', x'', rfl, hT, rfl, y, y', y''⟩ := y
        have e := y _ s1
        have e' := y' _ s2
        have e'' := y'' _ s3
        rw [h1] at e
        rw [h1'] at e'
        rw [h1''] at e''
        cases e
        cases e'
        cases e''
        have ex : Ex G (L2.upd G1 T (.tup [v, v', v''])) := e1.trans (Ex.new (e2.back hT))
        exact ⟨L2.upd G1 T (.tup [v, v', v'']), _, zip3D_get (show ds[i]? = some ds[i] by simp [hi]) (show es[i]? = some es[i] by simp [hi']) (show fs[i]? = some fs[i] by simp [hi'']), .new e2 hT, .tup upd_same (.cons (dp_mono ex _ h2) (.cons (dp_mono ex _ h2') (.cons (dp_mono ex _ h2'') .nil)))⟩
section
variable {X : Cx} {e e2 e3 : Expr} {s0 s1 : List Sl} {ds es fs : List PyData} {p pos tpos : Pos} {elts : List Expr} {kk : Nat}
theorem ei_enumT (ha : EvA X [e] s0 s1 [.tuple ds]) (hm : X.mg "enumerate" = none) (hg : Gl X "enumerate" := by rfl) (hs : starEach [e] X.env = [(false, eval e X.env)] := by rfl) : EvI X (.Tuple elts kk tpos) (.Call (.Name "enumerate" p) [e] [] pos) s0 s1 (enumD 0 ds) := .mk fun E R q =>
  WI.of (pi_enumT hg hm pa_W hs) (ha E _ fun vs G' H' E' g r => by
    cases r with
    | cons r1 r2 =>
      cases r2
      cases r1 with
      | tup s a => exact ⟨_, _, rfl, SqT.of (E'.s _ _ s), q _ G' H' E' g (yl_enumT (.tup s a))⟩)
theorem ei_enumL (ha : EvA X [e] s0 s1 [.list ds]) (hm : X.mg "enumerate" = none) (hg : Gl X "enumerate" := by rfl) (hs : starEach [e] X.env = [(false, eval e X.env)] := by rfl) : EvI X (.Tuple elts kk tpos) (.Call (.Name "enumerate" p) [e] [] pos) s0 s1 (enumD 0 ds) := .mk fun E R q =>
  WI.of (pi_enum hg hm pa_W hs) (ha E _ fun vs G' H' E' g r => by
    cases r with
    | cons r1 r2 =>
      cases r2
      cases r1 with
      | lst s a => exact ⟨_, _, rfl, ex_l E'.s s, q _ G' H' E' g (yl_enumL (.lst s a))⟩)
theorem ei_zipT (ha : EvA X [e, e2] s0 s1 [.tuple ds, .tuple es]) (hl : ds.length = es.length) (hm : X.mg "zip" = none) (hg : Gl X "zip" := by rfl) (hs : starEach [e, e2] X.env = (false, eval e X.env) :: starEach [e2] X.env := by rfl) (hpl : (backTo pos (starEach [e2] X.env)).any (·.1) = false := by rfl) :
    EvI X (.Tuple elts kk tpos) (.Call (.Name "zip" p) [e, e2] [] pos) s0 s1 (zipD ds es) := .mk fun E R q =>
  WI.of (pi_zipA hg hm pa_W hs hpl) (ha E _ fun vs G' H' E' g r => by
    cases r with
    | cons r1 r2 =>
      cases r2 with
      | cons r2 r3 =>
        cases r3
        cases r1 with
        | tup s a =>
          cases r2 with
          | tup s' a' => exact ⟨_, _, _, _, rfl, .inr ⟨SqT.of (E'.s _ _ s), SqT.of (E'.s _ _ s'), q _ G' H' E' g (yl_zipT hl (.tup s a) (.tup s' a'))⟩⟩)
theorem ei_zip3 (ha : EvA X [e, e2, e3] s0 s1 [.tuple ds, .tuple es, .tuple fs]) (hl : ds.length = es.length) (hl2 : ds.length = fs.length) (hm : X.mg "zip" = none) (hg : Gl X "zip" := by rfl) (hs : starEach [e, e2, e3] X.env = (false, eval e X.env) :: starEach [e2, e3] X.env := by rfl) (hpl : (backTo pos (starEach [e2, e3] X.env)).any (·.1) = false := by rfl) :
    EvI X (.Tuple elts kk tpos) (.Call (.Name "zip" p) [e, e2, e3] [] pos) s0 s1 (zip3D ds es fs) := .mk fun E R q =>
  WI.of (pi_zip3 hg hm pa_W hs hpl) (ha E _ fun vs G' H' E' g r => by
    cases r with
    | cons r1 r2 =>
      cases r2 with
      | cons r2 r3 =>
        cases r3 with
        | cons r3 r4 =>
          cases r4
          cases r1 with
          | tup s a =>
            cases r2 with
            | tup s' a' =>
              cases r3 with
              | tup s'' a'' => exact ⟨_, _, _, _, _, _, rfl, SqT.of (E'.s _ _ s), SqT.of (E'.s _ _ s'), SqT.of (E'.s _ _ s''), q _ G' H' E' g (yl_zip3 hl hl2 (.tup s a) (.tup s' a') (.tup s'' a''))⟩)
end
end Ewl
-- DL16
set_option Elab.async false
set_option linter.all false
set_option maxRecDepth 100000
set_option maxHeartbeats 4000000
/-! A tuple so many times; more rules. -/
namespace Ewl
open PySem L2
open PySem.Spec
set_option maxHeartbeats 8000000 in
theorem tuple_mul1 (l : Addr) (items : Array Value) (n : Nat) (dd : Option Addr) (sl : Array (Option Value)) (u : Tok) :
    Meets (Builtin.«tuple.__mul__» ⟨[.ref l, .int 1 u], []⟩) (fun _ R s => s.heap.get? l = some { cls := .type "tuple", dict := dd, data := .seq items n, slots := sl } ∧
      R (.ok (.ret (Value.ref l))) s) :=
  .of_wp fun prog w A R s h => by
    obtain ⟨hp, g, d, tk, os⟩ := s
    obtain ⟨hl, h⟩ := h
    have f1 := AutoSeq1.idx_int
    have c0 : (decide ((1 : Int) < -(2 ^ 63)) || decide ((1 : Int) ≥ 2 ^ 63)) = false := by decide
    have c1 : (items.isEmpty || (1 : Int) == 1) = true := by simp
    wp_walk using AutoSeq1.wpAny_loadPart' hl
    repeat (first
      | (refine wpAny_ite_false (decide_eq_false (by rw [c0]; exact Bool.false_ne_true)) ?_; wp_walk using AutoSeq1.wpAny_loadPart' hl)
      | (refine wpAny_ite_true (decide_eq_true c1) ?_; wp_walk using AutoSeq1.wpAny_loadPart' hl))
    exact ⟨_, rfl, h⟩
def rRepT1 (K : PySem.W.Frag) : R2 := fun x y H Q => ∃ l xs, x = .ref l ∧ y = .int 1 ∧ SqT K H l xs ∧ Q (.ref l) H
section
variable {X : Cx}
theorem op_repT1 : OpR X (binaryOp .Mult) (rRepT1 X.K) := by
  intro pins s σ H x y v u Q I rx ry h
  obtain ⟨l, xs, rfl, rfl, hT, q⟩ := h
  cases rx
  obtain ⟨t, rfl⟩ := ry
  obtain ⟨its, r, ⟨⟨cls, dd, data, sl⟩, ho, hc, n, hd⟩, hs⟩ := I.tuple hT
  simp only at hc hd
  subst hc hd
  refine wpAny_binaryOp_repeat_ref (T := "tuple") (U := "int") (by decide) ⟨_, ho, rfl⟩ (fun s' => typeIs_int s' 1 t) noFill_tuple_mul F.fills_int_mul F.slot_int_rmul repeat_tuple F.slot_int_index.lookup
    (call_meets F.slot_int_rmul (typeIs_int s 1 t) F.entry_int_rmul (F.args_int_rmul_2 _ _) (int_rmul_tuple 1 t l its.toArray n dd sl)
      ⟨ho, rfl, ⟨_, ho, rfl⟩, call_meets F.slot_tuple_mul ⟨_, ho, rfl⟩ F.entry_tuple_mul (F.args_tuple_mul_2 _ _) (tuple_mul1 l its.toArray n dd sl t) ⟨ho, ?_⟩⟩)
  exact ⟨.ref l, H, I, rfl, q⟩
theorem op_repTA : OpR X (binaryOp .Mult) (fun x y H Q => rRepT X.K x y H Q ∨ rRepT1 X.K x y H Q) := by
  intro pins s σ H x y v u Q I rx ry h
  rcases h with h | h
  · exact op_repT pins s σ H x y v u Q I rx ry h
  · exact op_repT1 pins s σ H x y v u Q I rx ry h
theorem rd_repT {ds : List PyData} {k : Int} (h1 : 1 ≤ k) (h2 : k ≤ 1000) (hne : ds ≠ []) (hl : ds.length ≤ 1000) : RD X.K (fun x y H Q => rRepT X.K x y H Q ∨ rRepT1 X.K x y H Q) (.tuple ds) (.int k) (.tuple (List.replicate k.toNat ds).flatten) := .mk fun {G H v w} s a b Q q => by
  cases b
  cases a with
  | tup sl r =>
    have hlen := dpAll_len r
    by_cases hk : k = 1
    · subst hk
      refine .inr ⟨_, _, rfl, rfl, SqT.of (s _ _ sl), q _ G H (.refl s) ?_⟩
      have : (List.replicate (1 : Int).toNat ds).flatten = ds := by simp
      rw [this]
      exact .tup sl r
    · refine .inl ⟨_, k, _, rfl, rfl, SqT.of (s _ _ sl), ?_, by omega, h2, by omega, fun p hp => ?_⟩
      · intro e
        rw [e] at hlen
        exact hne (List.eq_nil_of_length_eq_zero hlen.symm)
      · exact q _ (L2.upd G p (.tup _)) _ (.new s hp) (.tup upd_same (dpAll_mono (Ex.new (s.back hp)) _ (flat_rep r k.toNat)))
end
section
variable {X : Cx} {a b c e : Expr} {es : List Expr} {s0 s1 s2 s3 : List Sl} {d d1 d2 z : PyData} {xs ys : List PyData} {pos p p2 p3 : Pos} {i j : Nat} {x y : Str} {r : Res}
/-! ### x, y = a, [] and its like -/
theorem ew_nil {k : Nat} : PE X (.List [] pos) (tLst tNil) := pe_lst pa_nil
theorem st_parDL {px py pt pl : Pos} {kt k2 pt2} (ha : Ev X a s0 s1 d) (hi : X.N[i]? = some x) (hj : X.N[j]? = some y) (hij : i ≠ j) (hli : i < s1.length) (hlj : j < s1.length)
    (hN : X.N.Nodup) (hx : X.env.scope.names.lookup x = some .local := by rfl) (hy : X.env.scope.names.lookup y = some .local := by rfl) (hc : X.calm = true := by rfl)
    (hst : starEach [a, .List [] pl] X.env = (false, eval a X.env) :: starEach [.List [] pl] X.env := by rfl)
    (hw : swappedStores [.Tuple [.Name x px, .Name y py] kt pt] (.Tuple [a, .List [] pl] k2 pt2) X.env = pure (some [x, y]) := by rfl)
    (hs : swapsWithSole [.Tuple [.Name x px, .Name y py] kt pt] (.Tuple [a, .List [] pl] k2 pt2) pos.line X.env = pure false := by rfl) :
    St1 X (.Assign [.Tuple [.Name x px, .Name y py] kt pt] (.Tuple [a, .List [] pl] k2 pt2) pos) s0 (.nx ((s1.set i (.d d)).set j (.l []))) := .mk fun {G₀ H₀ G H σ} E D k =>
  WS.of (ps_par hc hN hi hj hij hx hy (pa_cons pe_W (pa_cons (pe_lst pa_nil) pa_nil) hst) hw hs) (ha E _ fun v G1 H1 E1 g1 r1 => ⟨Nat.zero_le _, fun p hp => ⟨_, _, rfl,
    k _ G1 _ ((E1.setD hli r1).setL (by rw [List.length_set]; exact hlj) hp .nil) g1⟩⟩)
theorem st_parLL {px py pt pk pl : Pos} {kt k2 pt2} (hi : X.N[i]? = some x) (hj : X.N[j]? = some y) (hij : i ≠ j) (hli : i < s0.length) (hlj : j < s0.length)
    (hN : X.N.Nodup) (hx : X.env.scope.names.lookup x = some .local := by rfl) (hy : X.env.scope.names.lookup y = some .local := by rfl) (hc : X.calm = true := by rfl)
    (hw : swappedStores [.Tuple [.Name x px, .Name y py] kt pt] (.Tuple [.List [] pk, .List [] pl] k2 pt2) X.env = pure (some [x, y]) := by rfl)
    (hs : swapsWithSole [.Tuple [.Name x px, .Name y py] kt pt] (.Tuple [.List [] pk, .List [] pl] k2 pt2) pos.line X.env = pure false := by rfl) :
    St1 X (.Assign [.Tuple [.Name x px, .Name y py] kt pt] (.Tuple [.List [] pk, .List [] pl] k2 pt2) pos) s0 (.nx ((s0.set i (.l [])).set j (.l []))) := .mk fun {G₀ H₀ G H σ} E D k =>
  WS.of (ps_par hc hN hi hj hij hx hy (pa_cons (pe_lst pa_nil) (pa_cons (pe_lst pa_nil) pa_nil)) hw hs) ⟨Nat.zero_le _, fun p hp => ⟨Nat.zero_le _, fun q hq => ⟨_, _, rfl,
    k _ G _ ((E.setL hli hp .nil).setL (by rw [List.length_set]; exact hlj) hq .nil) (Ex.refl G)⟩⟩⟩
/-- x, y, z = a, [], c -/
theorem st_par3 {l : Nat} {z' : Str} {px py pz pt pl : Pos} {kt k2 pt2} (ha : Ev X a s0 s1 d) (hc' : Ev X c s1 s2 d2) (hi : X.N[i]? = some x) (hj : X.N[j]? = some y) (hl : X.N[l]? = some z') (hij : i ≠ j) (hil : i ≠ l) (hjl : j ≠ l) (hli : i < s2.length) (hlj : j < s2.length) (hll : l < s2.length)
    (hN : X.N.Nodup) (hx : X.env.scope.names.lookup x = some .local := by rfl) (hy : X.env.scope.names.lookup y = some .local := by rfl) (hz : X.env.scope.names.lookup z' = some .local := by rfl) (hc : X.calm = true := by rfl)
    (hst : starEach [a, .List [] pl, c] X.env = (false, eval a X.env) :: starEach [.List [] pl, c] X.env := by rfl) (hst2 : starEach [.List [] pl, c] X.env = (false, eval (.List [] pl) X.env) :: starEach [c] X.env := by rfl) (hst3 : starEach [c] X.env = (false, eval c X.env) :: starEach [] X.env := by rfl)
    (hw : swappedStores [.Tuple [.Name x px, .Name y py, .Name z' pz] kt pt] (.Tuple [a, .List [] pl, c] k2 pt2) X.env = pure (some [x, y, z']) := by rfl)
    (hs : swapsWithSole [.Tuple [.Name x px, .Name y py, .Name z' pz] kt pt] (.Tuple [a, .List [] pl, c] k2 pt2) pos.line X.env = pure false := by rfl) :
    St1 X (.Assign [.Tuple [.Name x px, .Name y py, .Name z' pz] kt pt] (.Tuple [a, .List [] pl, c] k2 pt2) pos) s0 (.nx (((s2.set i (.d d)).set j (.l [])).set l (.d d2))) := .mk fun {G₀ H₀ G H σ} E D k =>
  WS.of (ps_par3 hc hN hi hj hl hij hil hjl hx hy hz (pa_cons pe_W (pa_cons (pe_lst pa_nil) (pa_cons pe_W pa_nil hst3) hst2) hst) hw hs) (ha E _ fun v G1 H1 E1 g1 r1 => ⟨Nat.zero_le _, fun p hp => by
    have h0 : H₀ p = none := E1.gw.h.back hp
    have g0 : G₀ p = none := (E1.gw.g.trans E1.s).back hp
    refine hc' (E1.keep (o := .lst []) hp) _ fun w G2 H2 E2 g2 r2 => ?_
    obtain ⟨H3, hp3, e3, E3⟩ := E2.unkeep h0 g0
    refine ⟨_, _, _, rfl, ?_⟩
    subst e3
    exact k _ G2 _ (((E3.setD hli (dp_mono g2 d r1)).setL (by rw [List.length_set]; exact hlj) hp3 .nil).setD (by rw [List.length_set, List.length_set]; exact hll) r2) (g1.trans g2)⟩)

/-! ### try that runs through; a dict handed back -/
theorem st_try {h₀ : ExceptHandler} {hs : List ExceptHandler} {ss : List Stmt} (h : Sv X ss s0 r) (hn : ∀ e s, ¬ X.xe e s := by exact fun _ _ z => z) : St1 X (.Try ss (h₀ :: hs) [] [] pos) s0 r := .mk fun {G₀ H₀ G H σ} E D k =>
  WS.of (ps_try_never hn pss_W pss_nil) (h E { D with nx := tNext D } k)
/-- never reached -/
theorem ev_neg {n : Int} (h : Ev X a s0 s1 (.int n)) : Ev X (.UnaryOp .USub a pos) s0 s1 (.int (-n)) := ev_un un_neg h ru_int
end
end Ewl
-- DL17
set_option Elab.async false
set_option linter.all false
set_option maxRecDepth 100000
set_option maxHeartbeats 4000000
/-! A dict handed back. -/
namespace Ewl
open PySem L2
structure EvK (X : Cx) (e : Expr) (sl sl' : List Sl) (kvs : List (Key × PyData)) : Prop where
  run : ∀ {G₀ H₀ G H : Hp} {σ : L2.St}, En X.K G₀ H₀ G H σ sl → ∀ Q : VK, (∀ a ps G' H', En X.K G₀ H₀ G' H' σ sl' → Ex G G' → H' a = none → KD X.K G' ps kvs → Q (.ref a) (L2.upd H' a (.dK ps))) → W X e σ H Q
instance {X : Cx} {e : Expr} {sl sl' : List Sl} {kvs : List (Key × PyData)} : CoeFun (EvK X e sl sl' kvs) (fun _ => ∀ {G₀ H₀ G H : Hp} {σ : L2.St}, En X.K G₀ H₀ G H σ sl → ∀ Q : VK, (∀ a ps G' H', En X.K G₀ H₀ G' H' σ sl' → Ex G G' → H' a = none → KD X.K G' ps kvs → Q (.ref a) (L2.upd H' a (.dK ps))) → W X e σ H Q) := ⟨fun h => h.run⟩
section
variable {X : Cx} {a b c e : Expr} {s0 s1 s2 s3 : List Sl} {d1 d2 d3 : PyData} {pos p1 p2 p3 : Pos} {k1 k2 k3 : Str} {j1 j2 j3 : Nat}
theorem ek_disp3 (ha : Ev X a s0 s1 d1) (hb : Ev X b s1 s2 d2) (hc : Ev X c s2 s3 d3)
    (hm : ∀ v1 v2 v3 : V, mergeK [] [(.inr k1, v1), (.inr k2, v2), (.inr k3, v3)] = [(.inr k1, v1), (.inr k2, v2), (.inr k3, v3)] := by intro _ _ _; rfl) :
    EvK X (.Dict [some (.Constant (.str k1) j1 p1), some (.Constant (.str k2) j2 p2), some (.Constant (.str k3) j3 p3)] [a, b, c] pos) s0 s3 [(.inr k1, d1), (.inr k2, d2), (.inr k3, d3)] := .mk fun {G₀ H₀ G H σ} E Q q => by
  refine W.of (pe_disp (pps_cons pe_str pe_W (pps_cons pe_str pe_W (pps_cons pe_str pe_W pps_nil))) rfl rfl (by simp) (by simp)) ?_
  intro p hp
  have h0 : H₀ p = none := E.gw.h.back hp
  have g0 : G₀ p = none := (E.gw.g.trans E.s).back hp
  refine ha (E.keep (o := .dK []) hp) _ fun v1 G1 H1 E1 g1 r1 => ?_
  refine hb E1 _ fun v2 G2 H2 E2 g2 r2 => ?_
  refine hc E2 _ fun v3 G3 H3 E3 g3 r3 => ?_
  obtain ⟨H4, hp4, e4, E4⟩ := E3.unkeep h0 g0
  subst e4
  refine ⟨upd_same, [(.inr k1, v1), (.inr k2, v2), (.inr k3, v3)], rfl, by simp, ?_⟩
  rw [upd_upd, hm]
  exact q p _ G3 H4 E4 ((g1.trans g2).trans g3) hp4 (.cons ⟨rfl, dp_mono (g2.trans g3) _ r1⟩ (.cons ⟨rfl, dp_mono g3 _ r2⟩ (.cons ⟨rfl, r3⟩ .nil)))
end
section
variable {P : Program} {w : World} {K : PySem.W.Frag} {mg : Str → Option Value} {base : Heap}
/-- a def whose body is the handing back of a new dict -/
theorem okK {x qual : Str} {st : Stmt} {f : Addr} {fd : FuncData} {N ps : List Str} {k : Nat} {g : List PyData → List (Key × PyData) → Prop} {e : Expr} {pos : Pos} (F : Fun K x qual st f fd) (S : FnScope N ps (defScope st)) (len : ∀ ds z, g ds z → ds.length = ps.length) (he : defBody st = [.Return (some e) pos])
    (hb : ∀ (cdv : Value) (A : Around) (outer : List Env) (s : Shared) (H : Hp) (E : XK), Room k (A.deeper (PyProof.Rows.envOfC qual (defScope st) s.heap.objs.size f cdv)) → ∀ ds z, g ds z →
      ∃ sl', EvK (cxOf CX0 P w K mg base N qual (defScope st) f cdv A outer s H E).nox e (ds.map Sl.d ++ List.replicate (N.length - ds.length) Sl.x) sl' z) : FnOk P w K mg base CX0 (k + 1) f fd ps (spK K g) := by
  refine F.ok S (fun vs H Q E h => ?_) (fun cdv A outer s H vs Q E hr h => ?_)
  · obtain ⟨G, ds, z, _, r, hg, _⟩ := h
    rw [dpAll_len r]; exact len ds z hg
  · obtain ⟨G, ds, z, sx, r, hg, q⟩ := h
    obtain ⟨sl', h'⟩ := hb cdv A outer s H E hr ds z hg
    rw [he]
    exact ⟨_, pss_one (ps_ret pe_W), h' (en_start sx r) _ fun a ps G' H' E' g' ha r' => q a ps G' H' E'.gw ha r'⟩
end
end Ewl
-- DL18
set_option Elab.async false
set_option linter.all false
set_option maxRecDepth 100000
set_option maxHeartbeats 4000000
/-! A def called from without (no text is being shown there): its promise at that one place; repr of data. -/
namespace Ewl
open PySem L2 PyProof.Rows
/-- the promise at one place -/
structure FnAt (A0 : Around) (P : Program) (w : World) (K : PySem.W.Frag) (mg : Str → Option Value) (base : Heap) (f : Addr) (fd : FuncData) (ps : List Str) (sp : Sp) : Prop where
  len : ∀ vs H Q E, sp vs H Q E → vs.length = ps.length
  at_ : ∀ (outer : List Env) (s : Shared) (H : Hp) (args : Args) (us : List Value) (vs : List V) (Q : VK) (E : XK), Env0 P w K mg base A0 outer s H → BindsTo s fd args (ps.zip us) → Vals vs us → sp vs H Q E → codeAny (model P w) A0 (.call (.ref f) args) (CR CX0 outer P w H s Q E) s
theorem fn_at {A0 : Around} {P : Program} {w : World} {K : PySem.W.Frag} {mg : Str → Option Value} {base : Heap} {x qual : Str} {st : Stmt} {f : Addr} {fd : FuncData} {N ps : List Str} {k : Nat} {sp : Sp} (hr : Room (k + 1) A0) (F : Fun K x qual st f fd) (S : FnScope N ps (defScope st))
    (len : ∀ vs H Q E, sp vs H Q E → vs.length = ps.length)
    (hb : ∀ (cdv : Value) (outer : List Env) (s : Shared) (H : Hp) (vs : List V) (Q : VK) (E : XK), Room k (A0.deeper (envOfC qual (defScope st) s.heap.objs.size f cdv)) → sp vs H Q E →
      WB (cxOf CX0 P w K mg base N qual (defScope st) f cdv A0 outer s H E).nox (defBody st) { nx := fun _ H' => Q .non H', rt := Q } (L2.start N vs) H) : FnAt A0 P w K mg base f fd ps sp := by
  obtain ⟨oc, od, kV, doc, pm, an, cdv, ct, osl, rfl, lk, hcd⟩ := F.ex
  refine ⟨len, fun outer s H args us vs Q E e0 bt rv hsp => ?_⟩
  have kin : K.In s.heap := e0.mod.kin.keeps fun b o e => (e0.bs b o e).1
  have nol : s.heap.NoLimit := e0.mod.nolimit.keeps fun b o e => (e0.bs b o e).1
  have slots : ∀ y ∈ ps.zip us, (defScope st).names.lookup y.1 = some .local ∨ ((defScope st).names.lookup y.1 = some .cell ∧ ((cellsFrom (s.heap.objs.size + 1) (defScope st).names []).lookup y.1).isSome = true) := fun y hy =>
    (S.par y.1 (List.of_mem_zip hy).1).imp id fun q => ⟨q, PySem.W.cellsFrom_some _ _ _ (.inl q)⟩
  refine codeAny_call_function hr.depth (kin _ _ lk) rfl S.co S.gen rfl (PySem.W.codeRec_of kin hcd) (bt _ _ _ _ (wpAny_newFunctionEnv_cells S.kind slots fun env he s1 y => ?_))
  subst he
  refine ⟨nol.keeps y.toInCall.keep, codeAny_func ?_⟩
  have I := inv_start (CX := CX0) (E := E) S hr.hd e0 (len _ _ _ _ hsp) rv y
  have body := (PSs.nox (X := cxOf CX0 P w K mg base N qual (defScope st) f cdv A0 outer s H E) (st := defBody st) pss_W).run [] s1 (L2.start N vs) H { nx := fun _ H' => Q .non H', rt := Q } I (hb cdv outer s H vs Q E (hr.deeper _) hsp)
  refine wpAny_mono body (fun fl s' hs => ?_) fun e s' hs => hs
  cases fl with
  | next => obtain ⟨σ', H', J, q⟩ := hs; exact ⟨V.non, H', J.os, J.bare, J.base, J.hok, rfl, q⟩
  | ret u => obtain ⟨v, σ', H', J, r', q⟩ := hs; exact ⟨v, H', J.os, J.bare, J.base, J.hok, r', q⟩
  | brk => obtain ⟨_, _, _, q⟩ := hs; exact q.elim
  | cont => obtain ⟨_, _, _, q⟩ := hs; exact q.elim
/-- the script's heap: the list at a frozen, or all of it K's -/
def scrH (K : PySem.W.Frag) (a : Addr) (vs : List Value) (ns : List Int) : Hp := fun b => if b = a ∧ K.lookup a = none then some (.frz { cls := .type "list", data := .seq vs.toArray } (.lst (ns.map V.int))) else none
theorem scrH_some {K : PySem.W.Frag} {a b : Addr} {vs : List Value} {ns : List Int} {u : HO} (h : scrH K a vs ns b = some u) : b = a ∧ K.lookup a = none ∧ u = .frz { cls := .type "list", data := .seq vs.toArray } (.lst (ns.map V.int)) := by
  unfold scrH at h
  by_cases q : b = a ∧ K.lookup a = none
  · rw [if_pos q] at h; exact ⟨q.1, q.2, (Option.some.inj h).symm⟩
  · rw [if_neg q] at h; cases h
theorem call_at {P : Program} {w : World} {K : PySem.W.Frag} {mg mb : Str → Option Value} {fa a : Addr} {fd : FuncData} {x : Str} {sp : Sp} {s₁ : Shared} {vs : List Value} {ns : List Int}
    (kin : K.In s₁.heap) (hns : s₁.heap.Ns mainGlobals mg) (hbn : s₁.heap.Ns builtinsNs mb) (hbb : ∀ x : Str, x ≠ "__name__" → mb x = bootBuiltins x) (nol : s₁.heap.NoLimit) (hg : s₁.gens = #[])
    (ha : s₁.heap.get? a = some { cls := .type "list", data := .seq vs.toArray }) (hi : IntsAre vs ns) (hl : ns.length ≤ sizeLine)
    (F : ∀ base : Heap, K.In base → base.Ns mainGlobals mg → FnAt callerA P w K mg base fa fd [x] sp) (bind : ∀ (s : Shared) (u : Value), BindsTo s fd ⟨[u], []⟩ [(x, u)])
    (hsp : ∀ H : Hp, SqL K H a (ns.map V.int) → sp [.ref a] H (fun v _ => v = .bl true) fun _ _ _ => False) :
    codeAny (model P w) callerA (.call (.ref fa) ⟨[.ref a], []⟩) (fun r s' => r = .ok (.ret (.bool true)) ∧ OldK s₁.heap s'.heap ∧ s'.os = s₁.os ∧ AllBare s'.gens) s₁ := by
  have rv : Vals (ns.map V.int) vs := vals_ints hi
  have hvl : vs.length = ns.length := hi.length
  have seq : SqL K (scrH K a vs ns) a (ns.map V.int) := by
    cases q : K.lookup a with
    | none => exact .inl (.inr ⟨{ cls := .type "list", data := .seq vs.toArray }, if_pos ⟨rfl, q⟩⟩)
    | some o =>
      have e := kin a o q
      rw [ha] at e
      cases e
      exact .inr ⟨_, vs.toArray, _, q, rfl, rfl, rfl, by rw [List.size_toArray, hvl]; exact hl, by simpa using rv⟩
  have ok : HOk P w (scrH K a vs ns) s₁.heap := fun b u z => by
    obtain ⟨rfl, _, rfl⟩ := scrH_some z
    exact ⟨ha, by rw [List.length_map]; exact hl, vs, _, rv, ha⟩
  have free : ∀ {b : Addr} {o : Obj}, s₁.heap.get? b = some o → (b = a → K.lookup a = none → False) → (hidT s₁.heap (scrH K a vs ns)).get? b = some o := fun {b o} e n => hidT_get e (by
    cases q : scrH K a vs ns b with
    | none => rfl
    | some u => obtain ⟨h1, h2, _⟩ := scrH_some q; exact (n h1 h2).elim)
  have names : ∀ {b : Addr} {m : Str → Option Value}, s₁.heap.Ns b m → (hidT s₁.heap (scrH K a vs ns)).Ns b m := fun {b m} ⟨o, es, ep, e, d, r⟩ => ⟨o, es, ep, free e (fun h _ => by
    subst h
    rw [ha] at e
    cases e
    cases (show Data.seq vs.toArray _ = Data.dict es ep from d)), d, r⟩
  have kin' : K.In (hidT s₁.heap (scrH K a vs ns)) := fun b o e => free (kin b o e) fun h n => by subst h; rw [n] at e; cases e
  obtain ⟨mc, l1, l2⟩ := nol
  have e0 : Env0 P w K mg (hidT s₁.heap (scrH K a vs ns)) callerA [] s₁ (scrH K a vs ns) :=
    ⟨rfl, ⟨kin', names hns, ⟨mb, names hbn, hbb⟩, mc, names l1, l2⟩, fun b o e => of_hidT e, Nat.le_of_eq (hidT_size _ _), trivial, (fun b hb => absurd hb (by simp [frs])), ok, .of_eq hg⟩
  refine codeAny_mono ((F _ kin' (names hns)).at_ [] s₁ _ ⟨[.ref a], []⟩ [.ref a] [.ref a] _ _ e0 (bind s₁ (.ref a)) (.cons rfl .nil) (hsp _ seq)) fun r s' h => ?_
  match r, h with
  | .ok (.ret u), h =>
    obtain ⟨v, H', os, bare, un, ok', r', q⟩ := h
    obtain rfl : v = .bl true := q
    obtain rfl : u = Value.bool true := r'
    refine ⟨rfl, OldK.of_keep fun b o e => ?_, os, bare⟩
    cases z : scrH K a vs ns b with
    | none => exact un.keep b o e z (by intro y; cases y) (by simp)
    | some u =>
      obtain ⟨h1, _, h3⟩ := scrH_some z
      rw [h3] at z
      obtain ⟨e1, _⟩ := ok b _ z
      obtain ⟨e2, _⟩ := ok' b _ (un.frzs b _ _ z)
      rw [e] at e1
      cases e1
      exact e2
  | .error e, h => exact (show False from h).elim
end Ewl
-- DL19
set_option Elab.async false
set_option linter.all false
set_option maxRecDepth 100000
set_option maxHeartbeats 4000000
/-! Defs that show data by repr: promised where no text is being shown; their calls. -/
namespace Ewl
open PySem L2 PyProof.Rows
theorem deeper_guards (A : Around) (env : Env) (h : A.guards = some []) : (A.deeper env).guards = some [] := by
  first | exact h | simpa [Around.deeper] using h
/-- the def x stands so in the module, and keeps its promise where no text is being shown -/
structure FnR (P : Program) (w : World) (K : PySem.W.Frag) (mg : Str → Option Value) (base : Heap) (x : Str) (k : Nat) (sp : Sp) : Prop where
  ex : ∃ (f : Addr) (fd : FuncData) (ps : List Str), mg x = some (.ref f) ∧ PySem.W.keepIn K (.ref f) = true ∧ (∀ A0 : Around, A0.guards = some [] → Room k A0 → FnAt A0 P w K mg base f fd ps sp) ∧ Binds K fd ps []
section
variable {X : Cx} {e : Expr} {es : List Expr} {s0 s1 s2 : List Sl} {ds : List PyData} {d z : PyData} {pos p : Pos} {x : Str} {k : Nat}
theorem run_at {f : Addr} {fd : FuncData} {ps : List Str} {sp : Sp} {pins : List (Addr × Obj)} {σ : L2.St} {H : Hp} {s : Shared} {Q : VK} {us : List Value} {vs : List V} (F : FnAt X.A X.prog X.w X.K X.mg X.base f fd ps sp) (hb : Binds X.K fd ps [])
    (I : L2.Inv X pins σ H s) (r : Vals vs us) (h : sp vs H Q fun _ _ _ => False) : wpAny (model X.prog X.w) X.A (call (.ref f) us) (EP X pins σ Q) X.xe s := by
  have hl : (us ++ []).length = ps.length := by rw [List.append_nil, ← r.length]; exact F.len _ _ _ _ h
  have bt := hb s us I.kIn hl
  rw [List.append_nil] at bt
  refine wpAny_call (codeAny_mono (F.at_ X.stack s H ⟨us, []⟩ us vs Q (fun _ _ _ => False) I.env0 bt r h) fun r s' hq => ?_)
  match r, hq with
  | .ok (.ret u), hq => exact I.after hq
  | .error e, hq => exact (show False from hq).elim
theorem ev_callR {g : List PyData → PyData → Prop} (F : FnR X.prog X.w X.K X.mg X.base x k (spD X.K g)) (hr : Room k X.A) (hG : X.A.guards = some []) (ha : EvA X (e :: es) s0 s1 ds) (hg : g ds z) (hgl : Gl X x := by rfl) (hdb : (x == ("__debug__" : Str)) = false := by decide)
    (he : starEach (e :: es) X.env = (false, eval e X.env) :: starEach es X.env := by rfl) (hpl : (backTo pos (starEach es X.env)).any (·.1) = false := by rfl) : Ev X (.Call (.Name x p) (e :: es) [] pos) s0 s1 z := .mk fun {G₀ H₀ G H σ} E Q q => by
  obtain ⟨f, fd, ps, hm, hk, hf, hb⟩ := F.ex
  have pe : PE X (.Call (.Name x p) (e :: es) [] pos) (fun σ H Q => WA X (e :: es) σ H fun vs H1 => spD X.K g vs H1 Q fun _ _ _ => False) := ⟨fun pins s σ H Q I h => by
    refine wpAny_Call_Name_kw (ld_glob I hgl hm ?_ hdb)
    refine PySem.W.callWith_K (h₀ := X.base) I.ok.mod.kin hk (thn (pa_W.run pos pins s σ H _ I h) fun us s1 ⟨vs, H1, I1, r, q⟩ => ⟨I1.kIn, ?_⟩) he hpl
    exact run_at (hf X.A hG hr) hb I1 r q⟩
  refine W.of pe (ha E _ fun vs G1 H1 E1 g1 r1 => ?_)
  exact ⟨G1, ds, z, E1.s, r1, hg, fun v G2 H2 g2 r2 => q v G2 H2 (E1.grow g2) (g1.trans g2.g) r2⟩
theorem dd_ref {K : PySem.W.Frag} {G : Hp} {v : V} {d : PyData} (hd : (∃ xs, d = .tuple xs) ∨ ∃ xs, d = .list xs) (r : Dd K G v d) : ∃ a, v = V.ref a := by
  rcases hd with ⟨xs, rfl⟩ | ⟨xs, rfl⟩
  · cases r with
    | tup s _ => exact ⟨_, rfl⟩
  · cases r with
    | lst s _ => exact ⟨_, rfl⟩
/-- repr(e), of a list or a tuple -/
theorem ev_repr (ha : EvA X [e] s0 s1 [d]) (hd : (∃ xs, d = .tuple xs) ∨ ∃ xs, d = .list xs) (hs : d.showable = true) (hn : d.hasDict = false) (hz : d.depth ≤ 8) (hl : d.shown.length ≤ sizeLine) (hu : X.A.units + 64 < cLine) (hG : X.A.guards = some []) (hm : X.mg "repr" = none) (hg : Gl X "repr" := by rfl)
    (he : starEach [e] X.env = (false, eval e X.env) :: starEach [] X.env := by rfl) (hpl : (backTo pos (starEach [] X.env)).any (·.1) = false := by rfl) : Ev X (.Call (.Name "repr" p) [e] [] pos) s0 s1 (.str d.shown) := .mk fun {G₀ H₀ G H σ} E Q q => by
  have cr : CallR X (.builtin "repr") (fun vs H Q => ∃ a, vs = [V.ref a] ∧ Dd X.K H (.ref a) d ∧ Q (.str d.shown) H) := by
    intro pins s σ H vs us Q I r h
    obtain ⟨a, rfl, hD, q⟩ := h
    rw [Vals.ref1 r]
    obtain ⟨as, rd⟩ := ddReads I d (.ref a) (.ref a) hn hD rfl
    exact repr_of_reads' rd hs (fun z => by rw [hn] at z; cases z) hG (by omega) (fun _ _ e => e) (fun h' u tk hk => ⟨.str d.shown, H, I.kept hk, ⟨_, rfl⟩, q⟩) hl
  refine W.of (pe_callB cr hg hm (by decide +kernel) pa_W (by decide) (by decide) he hpl) (ha E _ fun vs G1 H1 E1 g1 r1 => ?_)
  cases r1 with
  | cons r1 rr =>
    cases rr
    obtain ⟨a, rfl⟩ := dd_ref hd r1
    exact ⟨a, rfl, dp_mono E1.s d r1, q _ G1 H1 E1 g1 (.str _)⟩
theorem rd_neStr {K : PySem.W.Frag} {a b : Str} : RD K rNe (.str a) (.str b) (.bool (!decide (a = b))) := .mk fun {G H v w} s x y Q q => by
  cases x
  cases y
  refine ⟨rfl, ?_⟩
  have e : decide (V.str a = V.str b) = decide (a = b) := by simp
  rw [e]
  exact q _ G H (.refl s) (.bl _)
end
/-! ### bodies -/
section
variable {P : Program} {w : World} {K : PySem.W.Frag} {mg : Str → Option Value} {base : Heap}
theorem okR {x qual : Str} {st : Stmt} {f : Addr} {fd : FuncData} {N ps : List Str} {k : Nat} {g : List PyData → PyData → Prop} (F : Fun K x qual st f fd) (S : FnScope N ps (defScope st)) (len : ∀ ds z, g ds z → ds.length = ps.length)
    (hb : ∀ (cdv : Value) (A : Around) (outer : List Env) (s : Shared) (H : Hp) (E : XK), Room k (A.deeper (envOfC qual (defScope st) s.heap.objs.size f cdv)) → (A.deeper (envOfC qual (defScope st) s.heap.objs.size f cdv)).guards = some [] → ∀ ds z, g ds z →
      ∃ sl', Sv (cxOf CX0 P w K mg base N qual (defScope st) f cdv A outer s H E).nox (defBody st) (ds.map Sl.d ++ List.replicate (N.length - ds.length) Sl.x) (.ret sl' z)) : ∀ A0 : Around, A0.guards = some [] → Room (k + 1) A0 → FnAt A0 P w K mg base f fd ps (spD K g) := by
  intro A0 hG hr
  refine fn_at hr F S (fun vs H Q E h => ?_) fun cdv outer s H vs Q E hr' h => ?_
  · obtain ⟨G, ds, z, _, r, hg, _⟩ := h
    rw [dpAll_len r]; exact len ds z hg
  · obtain ⟨G, ds, z, sx, r, hg, q⟩ := h
    obtain ⟨sl', h'⟩ := hb cdv A0 outer s H E hr' (deeper_guards _ _ hG) ds z hg
    exact h' (en_start sx r) _ fun v σ G' H' E' g' r' => q v G' H' E'.gw r'
end
end Ewl
-- DL20
set_option Elab.async false
set_option linter.all false
set_option maxRecDepth 100000
set_option maxHeartbeats 4000000
/-! The end for a law whose def shows data by repr. -/
namespace Ewl
open PySem L2 PyProof.Rows
/-- a law: of any list of at most 63 ints it hands back True -/
def gTrue (ds : List PyData) (z : PyData) : Prop := ∃ ns : List Int, ns.length ≤ 63 ∧ ds = [.list (ns.map .int)] ∧ z = .bool true
theorem walkR {l : PySem.W.OpenLaw} {q : Program} {loose : List Str} {XP : (Str → Option Value) → Heap → Prop} {YP : World → Heap → Prop} {d : DefRec} {K : Params → PySem.W.Frag} {x : Str} (hn : l.most = some 63) (hdf : d.params.defaults = [])
    (hY : ∀ (w : World) (h : Heap), YP w h → (K w.params).In h)
    (F : ∀ (w : World) (mg : Str → Option Value) (fa : Addr) (h : Heap), (K w.params).In h → h.Ns mainGlobals mg → mg d.name = some (.ref fa) →
      ∃ fd : FuncData, (∀ (s : Shared) (u : Value), BindsTo s fd ⟨[u], []⟩ [(x, u)]) ∧ ∀ base : Heap, (K w.params).In base → base.Ns mainGlobals mg → FnAt callerA l.prog w (K w.params) mg base fa fd [x] (spD (K w.params) gTrue)) :
    PySem.W.WalkO q loose XP YP l.row.toRowW d [] (fun f vs => PySem.call f vs) := by
  refine Att.attach_call hn hdf fun w s₀ s₁ mg mb fa o pm cd doc a vs ns G Y ho hd hcd hmg hobj hints hlen hg => ?_
  obtain ⟨fd, bind, keeps⟩ := F w mg fa _ (hY w _ Y) G.T.g hmg
  refine call_at (hY w _ Y) G.T.g G.T.b G.T.builtins G.T.nolimit hg hobj hints (Nat.le_trans hlen (by decide)) keeps bind fun H hS => ?_
  refine ⟨H, [.list (ns.map .int)], .bool true, Ex.refl H, .cons (.lst hS (dpAll_ints ns)) .nil, ⟨ns, hlen, rfl, rfl⟩, fun v G' H' _ r => ?_⟩
  cases r; rfl
end Ewl
-- DL21
set_option Elab.async false
set_option linter.all false
set_option maxRecDepth 100000
set_option maxHeartbeats 2000000
/-! Dicts that are data: made so, read, asked. -/
namespace Ewl
open PySem L2

/-! ### pairs and data -/
theorem kyD_inj {a b : Key} (h : kyD a = kyD b) : a = b := by
  cases a <;> cases b <;> simp_all [kyD]
theorem kd_zip {κ : Type} {K : PySem.W.Frag} {G : Hp} : ∀ {ps : List (κ × V)} {kvs : List (κ × PyData)}, KD K G ps kvs → ∃ ks xs ds, ps = List.zip ks xs ∧ kvs = List.zip ks ds ∧ ks.length = ds.length ∧ DdAll K G xs ds
  | _, _, .nil => ⟨[], [], [], rfl, rfl, rfl, .nil⟩
  | (k, v) :: ps, (k', d) :: kvs, .cons h t => by
    obtain ⟨ks, xs, ds, e1, e2, e3, r⟩ := kd_zip t
    obtain ⟨h1, h2⟩ := h
    cases h1
    exact ⟨k :: ks, v :: xs, d :: ds, by rw [List.zip_cons_cons, e1], by rw [List.zip_cons_cons, e2], by simp [e3], .cons h2 r⟩
theorem zip_kd {κ : Type} {K : PySem.W.Frag} {G : Hp} : ∀ {ks : List κ} {xs : List V} {ds : List PyData}, ks.length = ds.length → DdAll K G xs ds → KD K G (List.zip ks xs) (List.zip ks ds)
  | [], _, _, _, .nil => .nil
  | k :: ks, _, _, h, .cons r t => .cons ⟨rfl, r⟩ (zip_kd (by simpa using h) t)
theorem dd_mkK {K : PySem.W.Frag} {G : Hp} {a : Addr} {ps : List (Key × V)} {kvs : List (Key × PyData)} {o : Obj} (h : G a = some (.frz o (.dK ps))) (r : KD K G ps kvs) : Dd K G (.ref a) (dKd kvs) := by
  obtain ⟨ks, xs, ds, rfl, rfl, e, r⟩ := kd_zip r
  exact .dk h e r
theorem dd_mkT {K : PySem.W.Frag} {G : Hp} {a : Addr} {ps : List (List Key × V)} {kvs : List (List Key × PyData)} {o : Obj} (h : G a = some (.frz o (.dT ps))) (r : KD K G ps kvs) : Dd K G (.ref a) (dTd kvs) := by
  obtain ⟨ks, xs, ds, rfl, rfl, e, r⟩ := kd_zip r
  exact .dt h e r
theorem dKd_inj {l m : List (Key × PyData)} (h : dKd l = dKd m) : l = m := by
  have q : l.map (fun p => (kyD p.1, p.2)) = m.map fun p => (kyD p.1, p.2) := by simpa [dKd] using h
  exact (List.map_inj_right (fun p p' e => by
    obtain ⟨a, b⟩ := p
    obtain ⟨c, d⟩ := p'
    simp only [Prod.mk.injEq] at e
    rw [kyD_inj e.1, e.2])).mp q
theorem dTd_inj {l m : List (List Key × PyData)} (h : dTd l = dTd m) : l = m := by
  have q : l.map (fun p => (PyData.tuple (p.1.map kyD), p.2)) = m.map fun p => (PyData.tuple (p.1.map kyD), p.2) := by simpa [dTd] using h
  exact (List.map_inj_right (fun p p' e => by
    obtain ⟨a, b⟩ := p
    obtain ⟨c, d⟩ := p'
    simp only [Prod.mk.injEq, PyData.tuple.injEq] at e
    rw [(List.map_inj_right (fun _ _ => kyD_inj)).mp e.1, e.2])).mp q
theorem dd_ofK {K : PySem.W.Frag} {G : Hp} {v : V} {kvs : List (Key × PyData)} (h : Dd K G v (dKd kvs)) : ∃ a o ps, v = .ref a ∧ G a = some (.frz o (.dK ps)) ∧ KD K G ps kvs := by
  generalize e : dKd kvs = d at h
  cases h with
  | dk h1 h2 h3 => cases dKd_inj e; exact ⟨_, _, _, rfl, h1, zip_kd h2 h3⟩
  | dt h1 h2 h3 => simp [dKd, dTd] at e
  | _ => simp [dKd] at e
theorem dd_ofT {K : PySem.W.Frag} {G : Hp} {v : V} {kvs : List (List Key × PyData)} (h : Dd K G v (dTd kvs)) : ∃ a o ps, v = .ref a ∧ G a = some (.frz o (.dT ps)) ∧ KD K G ps kvs := by
  generalize e : dTd kvs = d at h
  cases h with
  | dt h1 h2 h3 => cases dTd_inj e; exact ⟨_, _, _, rfl, h1, zip_kd h2 h3⟩
  | dk h1 h2 h3 => simp [dKd, dTd] at e
  | _ => simp [dTd] at e

/-! ### a dict of one's own becomes data -/
section
variable {K : PySem.W.Frag} {G₀ H₀ G H G' H' : Hp} {σ σ' : L2.St} {sls sls' : List Sl}
theorem En.frz1 (E : En K G₀ H₀ G H σ sls) {i : Nat} {a : Addr} {o : HO} {d : PyData} (od : Obj) (hi : i < sls.length) (hv : σ[i]? = some (some (.ref a))) (gn : G a = none) (h0 : H₀ a = none)
    (own : ∀ fi, SlotIs K G H σ sls i fi → fi = [a]) (r : ∀ G', Ex G G' → G' a = some (.frz od o) → Dd K G' (.ref a) d) : ∃ G', Ex G G' ∧ En K G₀ H₀ G' (L2.upd H a (.frz od o)) σ (sls.set i (.d d)) := by
  have eg : Ex G (L2.upd G a (.frz od o)) := Ex.new gn
  refine ⟨L2.upd G a (.frz od o), eg, ?_⟩
  have q := E.upd (v := .ref a) (s := .d d) hi eg (G' := L2.upd G a (.frz od o)) (H' := L2.upd H a (.frz od o)) ⟨E.gw.g.trans eg, fun b u hb => by rw [upd_ne (ne_of_none hb h0)]; exact E.gw.h b u hb,
      E.s.both, fun b u hb t n => by rw [upd_ne (ne_of_none hb h0)]; exact E.gw.m b u hb t n⟩ fun fi hf => by
    have ef := own fi hf
    subst ef
    exact ⟨fun b u nb hb => by rw [upd_ne (by simpa using nb)]; exact hb, fun b o nb hb _ n => by rw [upd_ne (by simpa using nb)]; exact n, [], ⟨rfl, r _ eg upd_same⟩, fun b hb => by cases hb⟩
  have es : σ.set i (some (.ref a)) = σ := by
    apply List.ext_getElem?
    intro j
    by_cases z : i = j
    · subst z
      rw [List.getElem?_set_self (by rw [E.len]; exact hi), hv]
    · rw [List.getElem?_set_ne z]
  rw [es] at q
  exact q
theorem En.frzK (E : En K G₀ H₀ G H σ sls) {i : Nat} {o : Option Addr} {kvs : List (Key × PyData)} (h : sls[i]? = some (.dk o kvs)) : ∃ a u, H a = some u ∧ Mut (some u) ∧ ∀ od, ∃ G', Ex G G' ∧ En K G₀ H₀ G' (L2.upd H a (.frz od u)) σ (sls.set i (.d (dKd kvs))) := by
  have hi : i < sls.length := (List.getElem?_eq_some_iff.mp h).1
  obtain ⟨a, ps, hv, _, gn, h0, ha, r⟩ := E.getK h
  refine ⟨a, _, ha, trivial, fun od => E.frz1 od hi hv gn h0 (fun fi hf => ?_) fun G' e hg => dd_mkK hg (r.mono e)⟩
  obtain ⟨v, e, a2, vs2, e1, ⟨e2, _⟩, _⟩ := hf.to h (by simp)
  rw [hv] at e
  cases e
  cases e2
  exact e1
theorem En.frzT (E : En K G₀ H₀ G H σ sls) {i : Nat} {kvs : List (List Key × PyData)} (h : sls[i]? = some (.dt kvs)) : ∃ a u, H a = some u ∧ Mut (some u) ∧ ∀ od, ∃ G', Ex G G' ∧ En K G₀ H₀ G' (L2.upd H a (.frz od u)) σ (sls.set i (.d (dTd kvs))) := by
  have hi : i < sls.length := (List.getElem?_eq_some_iff.mp h).1
  obtain ⟨a, ps, hv, gn, h0, ha, r⟩ := E.getT h
  refine ⟨a, _, ha, trivial, fun od => E.frz1 od hi hv gn h0 (fun fi hf => ?_) fun G' e hg => dd_mkT hg (r.mono e)⟩
  obtain ⟨v, e, a2, vs2, e1, e2, _⟩ := hf.to h (by simp)
  rw [hv] at e
  cases e
  cases e2
  exact e1
end
section
variable {X : Cx} {a b e : Expr} {es : List Expr} {ss : List Stmt} {s0 s1 s2 : List Sl} {d z : PyData} {pos p : Pos} {r : Res} {i : Nat}
theorem w_lock {σ : L2.St} {H : Hp} {Q : VK} {c : Addr} {u : HO} (h : H c = some u) (mu : Mut (some u)) (k : ∀ od, W X e σ (L2.upd H c (.frz od u)) Q) : W X e σ H Q := fun pins s I => by
  obtain ⟨od, I'⟩ := I.lock h mu
  exact k od pins s I'
theorem wb_lock {σ : L2.St} {H : Hp} {D : Ends} {c : Addr} {u : HO} (h : H c = some u) (mu : Mut (some u)) (k : ∀ od, WB X ss D σ (L2.upd H c (.frz od u))) : WB X ss D σ H := fun pins s I => by
  obtain ⟨od, I'⟩ := I.lock h mu
  exact k od pins s I'
theorem sv_frzK {o : Option Addr} {kvs : List (Key × PyData)} (hi : s0[i]? = some (.dk o kvs)) (h : Sv X ss (s0.set i (.d (dKd kvs))) r) : Sv X ss s0 r := .mk fun E D k => by
  obtain ⟨c, u, hc, mu, q⟩ := E.frzK hi
  refine wb_lock hc mu fun od => ?_
  obtain ⟨G', g, E'⟩ := q od
  exact h E' D (k.back g)
theorem sv_frzT {kvs : List (List Key × PyData)} (hi : s0[i]? = some (.dt kvs)) (h : Sv X ss (s0.set i (.d (dTd kvs))) r) : Sv X ss s0 r := .mk fun E D k => by
  obtain ⟨c, u, hc, mu, q⟩ := E.frzT hi
  refine wb_lock hc mu fun od => ?_
  obtain ⟨G', g, E'⟩ := q od
  exact h E' D (k.back g)
theorem ev_frzK {o : Option Addr} {kvs : List (Key × PyData)} (hi : s0[i]? = some (.dk o kvs)) (h : Ev X e (s0.set i (.d (dKd kvs))) s1 d) : Ev X e s0 s1 d := .mk fun E Q k => by
  obtain ⟨c, u, hc, mu, q⟩ := E.frzK hi
  refine w_lock hc mu fun od => ?_
  obtain ⟨G', g, E'⟩ := q od
  exact h E' Q fun v G2 H2 E2 g2 r2 => k v G2 H2 E2 (g.trans g2) r2
theorem ev_frzT {kvs : List (List Key × PyData)} (hi : s0[i]? = some (.dt kvs)) (h : Ev X e (s0.set i (.d (dTd kvs))) s1 d) : Ev X e s0 s1 d := .mk fun E Q k => by
  obtain ⟨c, u, hc, mu, q⟩ := E.frzT hi
  refine w_lock hc mu fun od => ?_
  obtain ⟨G', g, E'⟩ := q od
  exact h E' Q fun v G2 H2 E2 g2 r2 => k v G2 H2 E2 (g.trans g2) r2

/-! ### reading -/
theorem dd_key {K : PySem.W.Frag} {G : Hp} {v : V} {k : Key} (h : Dd K G v (kyD k)) : v = kV k := by
  cases k with
  | inl i => cases h; rfl
  | inr x => cases h; rfl
theorem ddAll_keys {K : PySem.W.Frag} {G : Hp} : ∀ {ks : List Key} {vs : List V}, DdAll K G vs (ks.map kyD) → vs = ks.map kV
  | [], _, h => by cases h; rfl
  | k :: ks, _, h => by
    cases h with
    | cons h1 h2 => rw [dd_key h1, ddAll_keys h2]; rfl
theorem dd_tkey {K : PySem.W.Frag} {G : Hp} {v : V} {ks : List Key} (h : Dd K G v (.tuple (ks.map kyD))) : ∃ c, v = .ref c ∧ G c = some (.tup (ks.map kV)) := by
  cases h with
  | tup s a => exact ⟨_, rfl, by rw [← ddAll_keys a]; exact s⟩
theorem rd_frz {K : PySem.W.Frag} {G H : Hp} {c : Addr} {o : Obj} {u : HO} (e : Ex G H) (h : G c = some (.frz o u)) : Rd H c u := .inr ⟨o, e _ _ h⟩
theorem dget_k {H : Hp} {a : Addr} {kvs : List (Key × V)} {k : Key} (e : Rd H a (.dK kvs)) : DGet H a (kV k) (valV kvs k) := .inl ⟨kvs, k, e, rfl, rfl⟩
theorem dget_t {H : Hp} {a b : Addr} {kvs : List (List Key × V)} {k : List Key} (e : Rd H a (.dT kvs)) (eb : H b = some (.tup (k.map kV))) : DGet H a (.ref b) (valV kvs k) := .inr ⟨kvs, k, b, e, rfl, eb, rfl⟩
/-- d[k] -/
theorem ev_dget {kvs : List (Key × PyData)} {k : Key} (ha : Ev X a s0 s1 (dKd kvs)) (hb : Ev X b s1 s2 (kyD k)) (hk : valD kvs k = some d) (hu : X.A.units + 1 < cLine) (hs : NoSl b := by intro _ _; rfl) : Ev X (.Subscript a b pos) s0 s2 d := .mk fun E Q q =>
  W.of (pe_dget hu pe_W pe_W hs) (ha E _ fun v G1 H1 E1 g1 r1 => hb E1 _ fun w G2 H2 E2 g2 r2 => by
    obtain ⟨c, o, ps, rfl, hc, rk⟩ := dd_ofK (dp_mono g2 _ r1)
    cases dd_key r2
    obtain ⟨v, ev, rv⟩ := (kd_val rk).1 d hk
    exact ⟨c, v, rfl, by rw [← ev]; exact dget_k (.inr ⟨o, E2.s _ _ hc⟩), q v G2 H2 E2 (g1.trans g2) rv⟩)
theorem ev_dgetT {kvs : List (List Key × PyData)} {k : List Key} (ha : Ev X a s0 s1 (dTd kvs)) (hb : Ev X b s1 s2 (.tuple (k.map kyD))) (hk : valD kvs k = some d) (hu : X.A.units + 1 < cLine) (hs : NoSl b := by intro _ _; rfl) : Ev X (.Subscript a b pos) s0 s2 d := .mk fun E Q q =>
  W.of (pe_dget hu pe_W pe_W hs) (ha E _ fun v G1 H1 E1 g1 r1 => hb E1 _ fun w G2 H2 E2 g2 r2 => by
    obtain ⟨c, o, ps, rfl, hc, rk⟩ := dd_ofT (dp_mono g2 _ r1)
    obtain ⟨b', rfl, hb'⟩ := dd_tkey r2
    obtain ⟨v, ev, rv⟩ := (kd_val rk).1 d hk
    exact ⟨c, v, rfl, by rw [← ev]; exact dget_t (.inr ⟨o, E2.s _ _ hc⟩) (E2.s _ _ hb'), q v G2 H2 E2 (g1.trans g2) rv⟩)
/-- k in d, k not in d -/
theorem et_din {kvs : List (Key × PyData)} {k : Key} (ha : Ev X a s0 s1 (kyD k)) (hb : Ev X b s1 s2 (dKd kvs)) (hu : X.A.units + 1 < cLine) (hm : behindInMarks .In b = false := by rfl) : EvT X (.Compare a [.In] [b] pos) s0 s2 (valD kvs k).isSome := .mk fun E Q q => by
  refine WT.of (pt_cmp (pc_din hu pe_W pe_W) hm) (ha E _ fun v G1 H1 E1 g1 r1 => hb E1 _ fun w G2 H2 E2 g2 r2 => ?_)
  obtain ⟨c, o, ps, rfl, hc, rk⟩ := dd_ofK r2
  cases dd_key r1
  exact ⟨c, _, rfl, dget_k (.inr ⟨o, E2.s _ _ hc⟩), _, rfl, by rw [(kd_val rk).2]; exact q G2 H2 E2 (g1.trans g2)⟩
theorem et_dinT {kvs : List (List Key × PyData)} {k : List Key} (ha : Ev X a s0 s1 (.tuple (k.map kyD))) (hb : Ev X b s1 s2 (dTd kvs)) (hu : X.A.units + 1 < cLine) (hm : behindInMarks .In b = false := by rfl) : EvT X (.Compare a [.In] [b] pos) s0 s2 (valD kvs k).isSome := .mk fun E Q q => by
  refine WT.of (pt_cmp (pc_din hu pe_W pe_W) hm) (ha E _ fun v G1 H1 E1 g1 r1 => hb E1 _ fun w G2 H2 E2 g2 r2 => ?_)
  obtain ⟨c, o, ps, rfl, hc, rk⟩ := dd_ofT r2
  obtain ⟨b', rfl, hb'⟩ := dd_tkey (dp_mono g2 _ r1)
  exact ⟨c, _, rfl, dget_t (.inr ⟨o, E2.s _ _ hc⟩) (E2.s _ _ hb'), _, rfl, by rw [(kd_val rk).2]; exact q G2 H2 E2 (g1.trans g2)⟩
theorem et_dnotin {kvs : List (Key × PyData)} {k : Key} (ha : Ev X a s0 s1 (kyD k)) (hb : Ev X b s1 s2 (dKd kvs)) (hu : X.A.units + 1 < cLine) (hm : behindInMarks .NotIn b = false := by rfl) : EvT X (.Compare a [.NotIn] [b] pos) s0 s2 (!(valD kvs k).isSome) := .mk fun E Q q => by
  refine WT.of (pt_cmp (pc_dnotin hu pe_W pe_W) hm) (ha E _ fun v G1 H1 E1 g1 r1 => hb E1 _ fun w G2 H2 E2 g2 r2 => ?_)
  obtain ⟨c, o, ps, rfl, hc, rk⟩ := dd_ofK r2
  cases dd_key r1
  exact ⟨c, _, rfl, dget_k (.inr ⟨o, E2.s _ _ hc⟩), _, rfl, by rw [(kd_val rk).2]; exact q G2 H2 E2 (g1.trans g2)⟩
theorem et_dnotinT {kvs : List (List Key × PyData)} {k : List Key} (ha : Ev X a s0 s1 (.tuple (k.map kyD))) (hb : Ev X b s1 s2 (dTd kvs)) (hu : X.A.units + 1 < cLine) (hm : behindInMarks .NotIn b = false := by rfl) : EvT X (.Compare a [.NotIn] [b] pos) s0 s2 (!(valD kvs k).isSome) := .mk fun E Q q => by
  refine WT.of (pt_cmp (pc_dnotin hu pe_W pe_W) hm) (ha E _ fun v G1 H1 E1 g1 r1 => hb E1 _ fun w G2 H2 E2 g2 r2 => ?_)
  obtain ⟨c, o, ps, rfl, hc, rk⟩ := dd_ofT r2
  obtain ⟨b', rfl, hb'⟩ := dd_tkey (dp_mono g2 _ r1)
  exact ⟨c, _, rfl, dget_t (.inr ⟨o, E2.s _ _ hc⟩) (E2.s _ _ hb'), _, rfl, by rw [(kd_val rk).2]; exact q G2 H2 E2 (g1.trans g2)⟩
end
end Ewl
-- DL22
set_option Elab.async false
set_option linter.all false
set_option maxRecDepth 100000
set_option maxHeartbeats 2000000
/-! Walks over dicts that are data. -/
namespace Ewl
open PySem L2
theorem kd_get {κ : Type} {K : PySem.W.Frag} {G : Hp} : ∀ {ps : List (κ × V)} {kvs : List (κ × PyData)} {i : Nat} {k : κ} {v : V}, KD K G ps kvs → ps[i]? = some (k, v) → ∃ d, kvs[i]? = some (k, d) ∧ Dd K G v d
  | _, _, _, _, _, .nil, e => by simp at e
  | p :: ps, q :: qs, 0, k, v, .cons h _, e => by
    simp at e
    subst e
    obtain ⟨k', d⟩ := q
    obtain ⟨h1, h2⟩ := h
    cases h1
    exact ⟨d, rfl, h2⟩
  | p :: ps, q :: qs, i + 1, k, v, .cons _ t, e => by
    obtain ⟨d, h1, h2⟩ := kd_get (i := i) t (by simpa using e)
    exact ⟨d, by simpa using h1, h2⟩
theorem dd_kV {K : PySem.W.Frag} {G : Hp} : ∀ k : Key, Dd K G (kV k) (kyD k)
  | .inl i => .int i
  | .inr x => .str x
theorem ddAll_kV {K : PySem.W.Frag} {G : Hp} : ∀ ks : List Key, DdAll K G (ks.map kV) (ks.map kyD)
  | [] => .nil
  | k :: ks => .cons (dd_kV k) (ddAll_kV ks)
/-- a tuple that stands in the heap is data -/
theorem gw_tup {G H : Hp} {q : Addr} {xs : List V} (s : Ex G H) (h : H q = some (.tup xs)) : Gw G H (L2.upd G q (.tup xs)) H := by
  refine ⟨fun b o hb => ?_, Ex.refl H, fun b o hb => ?_, fun b o hb t n => ?_⟩
  · by_cases z : b = q
    · subst z
      have := s _ _ hb
      rw [h] at this
      cases this
      exact upd_same
    · rw [upd_ne z]; exact hb
  · by_cases z : b = q
    · subst z; rw [upd_same] at hb; cases hb; exact h
    · rw [upd_ne z] at hb; exact s _ _ hb
  · by_cases z : b = q
    · subst z; rw [h] at hb; cases hb; exact absurd rfl (t _)
    · rw [upd_ne z]; exact n
theorem yl_keysK {K : PySem.W.Frag} {G : Hp} {a : Addr} {o : Obj} {ps : List (Key × V)} {kvs : List (Key × PyData)} (h : G a = some (.frz o (.dK ps))) (r : KD K G ps kvs) : Yl K G (Itk a o ps) (kvs.map fun p => kyD p.1) := by
  intro i G1 H1 e1 e2
  have s1 := e2 _ _ (e1 _ _ h)
  have hl := kd_len r
  rw [List.length_map]
  refine ⟨fun hi => ⟨⟨s1, by omega⟩, fun x H2 y => ?_⟩, fun hi => ⟨s1, by omega⟩⟩
  obtain ⟨rfl, k, v, e, rfl⟩ := y
  obtain ⟨d, e', _⟩ := kd_get r e
  exact ⟨G1, kyD k, by rw [List.getElem?_map, e']; rfl, .refl e2, dd_kV k⟩
theorem yl_keysT {K : PySem.W.Frag} {G : Hp} {a : Addr} {o : Obj} {ps : List (List Key × V)} {kvs : List (List Key × PyData)} (h : G a = some (.frz o (.dT ps))) (r : KD K G ps kvs) : Yl K G (Itkt a o ps) (kvs.map fun p => .tuple (p.1.map kyD)) := by
  intro i G1 H1 e1 e2
  have s1 := e2 _ _ (e1 _ _ h)
  have hl := kd_len r
  rw [List.length_map]
  refine ⟨fun hi => ⟨⟨s1, by omega⟩, fun x H2 y => ?_⟩, fun hi => ⟨s1, by omega⟩⟩
  obtain ⟨rfl, k, v, q, e, rfl, hq⟩ := y
  obtain ⟨d, e', _⟩ := kd_get r e
  exact ⟨L2.upd G1 q (.tup (k.map kV)), .tuple (k.map kyD), by rw [List.getElem?_map, e']; rfl, gw_tup e2 hq, .tup upd_same (ddAll_kV k)⟩
/-- the values -/
theorem yl_vals {K : PySem.W.Frag} {G : Hp} {a : Addr} {o : Obj} {ps : List (Key × V)} {kvs : List (Key × PyData)} (h : G a = some (.frz o (.dK ps))) (r : KD K G ps kvs) : Yl K G (Itd a o ps) (kvs.map fun p => p.2) := by
  intro i G1 H1 e1 e2
  have s1 := e2 _ _ (e1 _ _ h)
  have hl := kd_len r
  rw [List.length_map]
  refine ⟨fun hi => ⟨⟨s1, by omega⟩, fun x H2 y => ?_⟩, fun hi => ⟨s1, by omega⟩⟩
  obtain ⟨rfl, k, e⟩ := y
  obtain ⟨d, e', rd⟩ := kd_get r e
  exact ⟨G1, d, by rw [List.getElem?_map, e']; rfl, .refl e2, dp_mono e1 _ rd⟩
/-- the pairs -/
theorem yl_items {K : PySem.W.Frag} {G : Hp} {a : Addr} {o : Obj} {ps : List (Key × V)} {kvs : List (Key × PyData)} (h : G a = some (.frz o (.dK ps))) (r : KD K G ps kvs) : Yl K G (Iti a o ps) (kvs.map fun p => .tuple [kyD p.1, p.2]) := by
  intro i G1 H1 e1 e2
  have s1 := e2 _ _ (e1 _ _ h)
  have hl := kd_len r
  rw [List.length_map]
  refine ⟨fun hi => ⟨⟨s1, by omega⟩, fun x H2 y => ?_⟩, fun hi => ⟨s1, by omega⟩⟩
  obtain ⟨T, k, v, e, rfl, hT, rfl⟩ := y
  obtain ⟨d, e', rd⟩ := kd_get r e
  have gn := e2.back hT
  exact ⟨L2.upd G1 T (.tup [kV k, v]), .tuple [kyD k, d], by rw [List.getElem?_map, e']; rfl, .new e2 hT, .tup upd_same (.cons (dd_kV k) (.cons (dp_mono (e1.trans (Ex.new gn)) _ rd) .nil))⟩
section
variable {X : Cx} {tg e : Expr} {s0 s1 : List Sl} {apos cpos : Pos}
theorem ei_dictK {kvs : List (Key × PyData)} (h : Ev X e s0 s1 (dKd kvs)) : EvI X tg e s0 s1 (kvs.map fun p => kyD p.1) := .mk fun E R q => WI.of (pi_keys pe_W) (h E _ fun v G' H' E' g r => by
  obtain ⟨c, o, ps, rfl, hc, rk⟩ := dd_ofK r
  exact ⟨c, o, rfl, .inl ⟨ps, E'.s _ _ hc, q _ G' H' E' g (yl_keysK hc rk)⟩⟩)
theorem ei_dictT {kvs : List (List Key × PyData)} (h : Ev X e s0 s1 (dTd kvs)) : EvI X tg e s0 s1 (kvs.map fun p => .tuple (p.1.map kyD)) := .mk fun E R q => WI.of (pi_keys pe_W) (h E _ fun v G' H' E' g r => by
  obtain ⟨c, o, ps, rfl, hc, rk⟩ := dd_ofT r
  exact ⟨c, o, rfl, .inr ⟨ps, E'.s _ _ hc, q _ G' H' E' g (yl_keysT hc rk)⟩⟩)
theorem ei_values {kvs : List (Key × PyData)} (h : Ev X e s0 s1 (dKd kvs)) (hbase : attributeBase e "values" X.env (eval e X.env) = eval e X.env := by rfl) (hline : (apos.endLine == cpos.line) = true := by rfl) : EvI X tg (.Call (.Attribute e "values" apos) [] [] cpos) s0 s1 (kvs.map fun p => p.2) := .mk fun E R q => WI.of (pi_values pe_W hbase hline) (h E _ fun v G' H' E' g r => by
  obtain ⟨c, o, ps, rfl, hc, rk⟩ := dd_ofK r
  exact ⟨c, o, ps, rfl, E'.s _ _ hc, q _ G' H' E' g (yl_vals hc rk)⟩)
theorem ei_items {elts : List Expr} {kk : Nat} {tpos : Pos} {kvs : List (Key × PyData)} (h : Ev X e s0 s1 (dKd kvs)) (hbase : attributeBase e "items" X.env (eval e X.env) = eval e X.env := by rfl) (hline : (apos.endLine == cpos.line) = true := by rfl) :
    EvI X (.Tuple elts kk tpos) (.Call (.Attribute e "items" apos) [] [] cpos) s0 s1 (kvs.map fun p => .tuple [kyD p.1, p.2]) := .mk fun E R q => WI.of (pi_items pe_W hbase hline) (h E _ fun v G' H' E' g r => by
  obtain ⟨c, o, ps, rfl, hc, rk⟩ := dd_ofK r
  exact ⟨c, o, ps, rfl, E'.s _ _ hc, q _ G' H' E' g (yl_items hc rk)⟩)
end
end Ewl
-- EV1
set_option Elab.async false
set_option linter.all false
set_option maxRecDepth 100000
set_option maxHeartbeats 4000000
/-! A reader of defs over data: outcomes, operations on data. By an AI agent. -/
namespace Ewl
open PySem L2

/-- an exception of the program's own: its class, its field -/
structure Xn where
  cls : Str
  fld : Option (Str × PyData)
/-- what comes out: nothing that is told here, a value, an exception -/
inductive Oc (α : Type) where
  | un
  | ok (a : α)
  | ex (sl : List Sl) (x : Xn)
def Oc.bind {α β : Type} : Oc α → (α → Oc β) → Oc β
  | .un, _ => .un
  | .ok a, f => f a
  | .ex s x, _ => .ex s x
instance : Monad Oc := { pure := .ok, bind := Oc.bind }
theorem Oc.bind_ok {α β : Type} {a : α} {f : α → Oc β} : (Oc.ok a >>= f) = f a := rfl
theorem Oc.bind_un {α β : Type} {f : α → Oc β} : ((Oc.un : Oc α) >>= f) = .un := rfl
theorem Oc.bind_ex {α β : Type} {s : List Sl} {x : Xn} {f : α → Oc β} : ((Oc.ex s x : Oc α) >>= f) = .ex s x := rfl
theorem Oc.pure_ok {α : Type} {a : α} : (pure a : Oc α) = .ok a := rfl
theorem Oc.bind_eq_ok {α β : Type} {a : Oc α} {f : α → Oc β} {b : β} (h : (a >>= f) = .ok b) : ∃ x, a = .ok x ∧ f x = .ok b := by
  cases a with
  | un => cases h
  | ok x => exact ⟨x, rfl, h⟩
  | ex s x => cases h
/-- told by an option -/
def ofO {α : Type} : Option α → Oc α
  | none => .un
  | some a => .ok a
theorem ofO_ok {α : Type} {o : Option α} {a : α} (h : ofO o = .ok a) : o = some a := by cases o <;> simp_all [ofO]
theorem ofO_some {α : Type} {a : α} : ofO (some a) = .ok a := rfl

/-- a value: data, a new list, a new dict (two kinds of keys) -/
inductive Rv where
  | d (z : PyData)
  | l (xs : List PyData)
  | k (kvs : List (Key × PyData))
  | t (kvs : List (List Key × PyData))
def frzR : Rv → Option PyData
  | .d z => some z
  | .l xs => some (.list xs)
  | _ => none

/-! ### operations -/
def isIntD : PyData → Bool
  | .int _ => true
  | _ => false
/-- keys -/
def keyOf : PyData → Option Key
  | .int i => some (.inl i)
  | .str x => some (.inr x)
  | _ => none
def keysOf : List PyData → Option (List Key)
  | [] => some []
  | d :: ds => match keyOf d, keysOf ds with
    | some k, some ks => some (k :: ks)
    | _, _ => none
theorem kyD_of {d : PyData} {k : Key} (h : keyOf d = some k) : d = kyD k := by
  cases d <;> simp_all [keyOf] <;> subst h <;> rfl
theorem keysD_of : ∀ {ds : List PyData} {ks : List Key}, keysOf ds = some ks → ds = ks.map kyD
  | [], ks, h => by simp [keysOf] at h; subst h; rfl
  | d :: ds, ks, h => by
    rw [keysOf] at h
    split at h
    · rename_i k ks' e1 e2
      cases h
      rw [kyD_of e1, keysD_of e2]; rfl
    · cases h
theorem keyOf_kyD (k : Key) : keyOf (kyD k) = some k := by cases k <;> rfl
theorem keysOf_map : ∀ ks : List Key, keysOf (ks.map kyD) = some ks
  | [] => rfl
  | k :: ks => by rw [List.map_cons, keysOf, keyOf_kyD, keysOf_map ks]
/-- a tuple key -/
def tkeyOf : PyData → Option (List Key)
  | .tuple ds => keysOf ds
  | _ => none
theorem tkey_of {d : PyData} {ks : List Key} (h : tkeyOf d = some ks) : d = .tuple (ks.map kyD) := by
  cases d <;> simp only [tkeyOf] at h
  case tuple ds => rw [keysD_of h]
  all_goals cases h
/-- a dict's pairs, told back -/
def dpairsK : List (PyData × PyData) → Option (List (Key × PyData))
  | [] => some []
  | p :: ps => match keyOf p.1, dpairsK ps with
    | some k, some ks => some ((k, p.2) :: ks)
    | _, _ => none
def dpairsT : List (PyData × PyData) → Option (List (List Key × PyData))
  | [] => some []
  | p :: ps => match tkeyOf p.1, dpairsT ps with
    | some k, some ks => some ((k, p.2) :: ks)
    | _, _ => none
inductive DV where
  | k (kvs : List (Key × PyData))
  | t (kvs : List (List Key × PyData))
def dictV : PyData → Option DV
  | .dict ((.bool false, .none) :: ps) => (dpairsK ps).map .k
  | .dict ((.bool true, .none) :: ps) => (dpairsT ps).map .t
  | _ => none
theorem dpairsK_of : ∀ {ps : List (PyData × PyData)} {kvs : List (Key × PyData)}, dpairsK ps = some kvs → ps = kvs.map fun p => (kyD p.1, p.2)
  | [], kvs, h => by simp [dpairsK] at h; subst h; rfl
  | p :: ps, kvs, h => by
    rw [dpairsK] at h
    split at h
    · rename_i k ks e1 e2
      cases h
      rw [List.map_cons, ← kyD_of e1, ← dpairsK_of e2]
    · cases h
theorem dpairsT_of : ∀ {ps : List (PyData × PyData)} {kvs : List (List Key × PyData)}, dpairsT ps = some kvs → ps = kvs.map fun p => (.tuple (p.1.map kyD), p.2)
  | [], kvs, h => by simp [dpairsT] at h; subst h; rfl
  | p :: ps, kvs, h => by
    rw [dpairsT] at h
    split at h
    · rename_i k ks e1 e2
      cases h
      rw [List.map_cons, ← tkey_of e1, ← dpairsT_of e2]
    · cases h
theorem dictV_k {d : PyData} {kvs : List (Key × PyData)} (h : dictV d = some (.k kvs)) : d = dKd kvs := by
  unfold dictV at h
  split at h
  · rename_i ps
    cases e : dpairsK ps with
    | none => rw [e] at h; cases h
    | some q => rw [e] at h; cases h; rw [dpairsK_of e]
  · rename_i ps
    cases e : dpairsT ps with
    | none => rw [e] at h; cases h
    | some q => rw [e] at h; cases h
  · cases h
theorem dictV_t {d : PyData} {kvs : List (List Key × PyData)} (h : dictV d = some (.t kvs)) : d = dTd kvs := by
  unfold dictV at h
  split at h
  · rename_i ps
    cases e : dpairsK ps with
    | none => rw [e] at h; cases h
    | some q => rw [e] at h; cases h
  · rename_i ps
    cases e : dpairsT ps with
    | none => rw [e] at h; cases h
    | some q => rw [e] at h; cases h; rw [dpairsT_of e]
  · cases h
theorem dpairsK_map : ∀ kvs : List (Key × PyData), dpairsK (kvs.map fun p => (kyD p.1, p.2)) = some kvs
  | [] => rfl
  | p :: kvs => by simp only [List.map_cons, dpairsK, keyOf_kyD, dpairsK_map kvs]
theorem tkeyOf_map (ks : List Key) : tkeyOf (.tuple (ks.map kyD)) = some ks := keysOf_map ks
theorem dpairsT_map : ∀ kvs : List (List Key × PyData), dpairsT (kvs.map fun p => (.tuple (p.1.map kyD), p.2)) = some kvs
  | [] => rfl
  | p :: kvs => by simp only [List.map_cons, dpairsT, tkeyOf_map, dpairsT_map kvs]
theorem dictV_dKd (kvs : List (Key × PyData)) : dictV (dKd kvs) = some (.k kvs) := by simp only [dictV, dpairsK_map]; rfl
theorem dictV_dTd (kvs : List (List Key × PyData)) : dictV (dTd kvs) = some (.t kvs) := by simp only [dictV, dpairsT_map]; rfl
end Ewl
-- RD1
set_option Elab.async false
set_option linter.all false
set_option maxRecDepth 100000
set_option maxHeartbeats 4000000
/-! A reader of defs: its trees, what they are of the program's, what they do on data. By an AI agent. -/
namespace Ewl
open PySem L2

inductive Bin where
  | add | sub | mul | fdiv | mod | pow
  deriving DecidableEq
inductive Cmp where
  | eq | ne | lt | le | gt | ge | is | isN
  deriving DecidableEq
/-- built-ins that hand back data -/
inductive Bi where
  | len | sum | abs | int | gcd | lcm | min | max | tuple | repr | all | any
  deriving DecidableEq
/-- built-ins that hand back a new list -/
inductive Bl where
  | list | sorted
  deriving DecidableEq
mutual
/-- data -/
inductive E where
  | var (i : Nat)
  | int (n : Int)
  | bl (b : Bool)
  | str (x : Str)
  | non
  | glb (x : Str)
  | bin (o : Bin) (a b : E)
  | neg (a : E)
  | cmp (o : Cmp) (a b : E)
  | chain (o1 o2 : Cmp) (a b c : E)
  | notE (a : E)
  | ands (es : Es)
  | ors (es : Es)
  | ite (c : T) (a b : E)
  | tup (es : Es)
  | fz (l : L)
  | ix (a b : E)
  | ixv (i : Nat) (b : E)
  | lenv (i : Nat)
  | bi (f : Bi) (es : Es)
  | call (k : Nat) (es : Es)
  | callS (k i : Nat) (es : Es)
  | slT (a : E) (lo hi : Oe)
  | bk (a : E) (lo hi : Oe)
  | tyIs (ne : Bool) (a : E) (t : String)
  | tyIn (ne : Bool) (a : E) (t1 t2 : String)
  | inn (ne : Bool) (a b : E)
  | innv (ne : Bool) (a : E) (i : Nat)
inductive Oe where
  | no
  | so (e : E)
inductive Es where
  | nil
  | cons (e : E) (es : Es)
/-- new lists -/
inductive L where
  | lst (es : Es)
  | rep (a : L) (b : E)
  | cat (a b : E)
  | slc (a : E) (lo hi : Oe)
  | bl (f : Bl) (es : Es)
  | lc (own : List Nat) (g : G) (it : I) (elt : E)
  | lcIf (own : List Nat) (g : G) (it : I) (c : T) (elt : E)
  | lc2 (own v1 : List Nat) (g : G) (it : I) (g1 : G) (it1 : I) (elt : E)
/-- tests -/
inductive T where
  | val (e : E)
  | nt (t : T)
  | ands (ts : Ts)
  | ors (ts : Ts)
inductive Ts where
  | one (t : T)
  | cons (t : T) (ts : Ts)
/-- what is walked -/
inductive I where
  | seq (e : E)
  | rng (a : E)
  | rng2 (a b : E)
  | enum (e : E)
  | zip (a b : E)
  | zip3 (a b c : E)
  | vals (e : E)
  | items (e : E)
/-- targets -/
inductive G where
  | nm (i : Nat)
  | tup (gs : Gs)
inductive Gs where
  | nil
  | cons (g : G) (gs : Gs)
end
mutual
inductive Ms where
  | nil
  | e (e : E) (ms : Ms)
  | l (l : L) (ms : Ms)
  | t (ms : Ms)
inductive S where
  | asg (i : Nat) (e : E)
  | asgL (i : Nat) (l : L)
  | asgLL (i : Nat) (own : List Nat) (g : G) (it : I) (l : L)
  | asgT (g : G) (e : E)
  | par (is : List Nat) (ms : Ms)
  | app (i : Nat) (e : E)
  | ext (i : Nat) (e : E)
  | popAt (j i : Nat) (e : E)
  | ret (e : E)
  | ret0
  | ife (t : T) (a b : Ss)
  | for_ (g : G) (it : I) (body : Ss)
  | whl (t : T) (body : Ss)
  | ex (e : E)
  | putK (i : Nat) (k : Str) (e : E)
  | putT (i : Nat) (k e : E)
  | newT (i : Nat)
  | asgK (i k : Nat) (es : Es)
  | setLL (i : Nat) (w p e : E)
  | pass
  | tryT (b : Ss)
  | bad
inductive Ss where
  | nil
  | cons (s : S) (ss : Ss)
end

/-! ### what they are of the program's -/
structure Ck where
  N : List Str
  sc : Scope
  fnc : Str → Bool
  fs : List Str
  bs : List Str
  gs : List Str
def visB (sc : Scope) (x : Str) : Bool := sc.names.lookup x == some .local || (sc.names.lookup x == some .cell || sc.names.lookup x == some .free)
def glB (sc : Scope) (x : Str) : Bool := sc.names.lookup x == some .globalImplicit
def oddB (x : Str) : Bool := x == ("__debug__" : Str) || x == ("__classdict__" : Str) || x == ("__name__" : Str)
/-- a name that is read -/
def nmB (c : Ck) (i : Nat) (x : Str) : Bool := c.N[i]? == some x && (visB c.sc x && !oddB x)
/-- a name that is written -/
def loB (c : Ck) (i : Nat) (x : Str) : Bool := c.N[i]? == some x && (c.sc.names.lookup x == some .local || (c.sc.names.lookup x == some .cell && c.fnc x))
/-- a name of this frame's own -/
def loc1B (c : Ck) (i : Nat) (x : Str) : Bool := c.N[i]? == some x && c.sc.names.lookup x == some .local
def bltB (c : Ck) (x y : Str) : Bool := x == y && (glB c.sc x && (c.bs.contains x && !oddB x))
def mthB (c : Ck) (x y : Str) : Bool := x == y && (glB c.sc x && (c.gs.contains x && !oddB x))
def binO : Bin → Operator
  | .add => .Add | .sub => .Sub | .mul => .Mult | .fdiv => .FloorDiv | .mod => .Mod | .pow => .Pow
def cmpO : Cmp → CmpOp
  | .eq => .Eq | .ne => .NotEq | .lt => .Lt | .le => .LtE | .gt => .Gt | .ge => .GtE | .is => .Is | .isN => .IsNot
def notStar : Expr → Bool
  | .Starred .. => false
  | _ => true
def notSlice : Expr → Bool
  | .Slice .. => false
  | _ => true
def notSet : Expr → Bool
  | .Set .. => false
  | _ => true
def notComp : Expr → Bool
  | .ListComp .. | .SetComp .. | .DictComp .. => false
  | _ => true
def notTup : Expr → Bool
  | .Tuple .. => false
  | _ => true
/-- its test is that of its value -/
def plainT : Expr → Bool
  | .BoolOp .. | .IfExp .. | .Compare .. | .UnaryOp .Not .. => false
  | _ => true
def biN : Bi → Str
  | .len => "len" | .sum => "sum" | .abs => "abs" | .int => "int" | .gcd => "gcd" | .lcm => "lcm" | .min => "min" | .max => "max" | .tuple => "tuple" | .repr => "repr" | .all => "all" | .any => "any"
def biM : Bi → Bool
  | .gcd | .lcm => true
  | _ => false
def blN : Bl → Str
  | .list => "list" | .sorted => "sorted"
/-- a comprehension's scope, as it runs -/
def rlb (scope sc : Scope) : Scope := { scope with names := scope.names.map fun (n, k) => if k == NameKind.free && sc.kind == .function && sc.names.lookup n == some .cell then (n, NameKind.cell) else (n, k) }
def blkB (N : List Str) (sc scope : Scope) (own : List (Str × Nat)) : Bool :=
  scope.kind == .function && ((scope.names.all fun y => scope.names.lookup y.1 == some y.2) && ((own.all fun p => N[p.2]? == some p.1) &&
  ((scope.names.all fun y => !(y.2 == .free) || (sc.names.lookup y.1 == some .cell || sc.names.lookup y.1 == some .free)) &&
   (scope.names.all fun y => !(y.2 == .local || y.2 == .cell) || ((own.map (·.1)).contains y.1 || !N.contains y.1)))))
def ownN (N : List Str) (own : List Nat) : List (Str × Nat) := own.filterMap fun i => (N[i]?).map fun x => (x, i)
def Ck.in (c : Ck) (scope : Scope) : Ck := { c with sc := rlb scope c.sc, fnc := fun x => scope.names.lookup x == some .cell }

def tyN : List String := ["bool", "int", "str", "list", "tuple", "dict"]
def isIntC (n : Int) : Expr → Bool
  | .Constant (.int m) _ _ => m == n
  | _ => false
mutual
def chkE (c : Ck) : E → Expr → Bool
  | .var i, e => match e with | .Name x _ => nmB c i x | _ => false
  | .int n, e => isIntC n e
  | .bl b, e => match e with | .Constant (.bool k) _ _ => k == b | _ => false
  | .str y, e => match e with | .Constant (.str x) _ _ => x == y | _ => false
  | .non, e => match e with | .Constant .none _ _ => true | _ => false
  | .glb y, e => match e with | .Name x _ => x == y && (glB c.sc x && !oddB x) | _ => false
  | .bin o a b, e => match e with | .BinOp l p r _ => p == binO o && (chkE c a l && chkE c b r) | _ => false
  | .neg a, e => match e with | .UnaryOp .USub l _ => chkE c a l | _ => false
  | .cmp o a b, e => match e with | .Compare l [p] [r] _ => p == cmpO o && (notSet r && (chkE c a l && chkE c b r)) | _ => false
  | .chain o1 o2 a b d, e => match e with | .Compare l [p, q] [m, r] _ => p == cmpO o1 && (q == cmpO o2 && (notSet r && (chkE c a l && (chkE c b m && chkE c d r)))) | _ => false
  | .notE a, e => match e with | .UnaryOp .Not l _ => chkE c a l | _ => false
  | .ands es, e => match e with | .BoolOp .And xs _ => chkEs c es xs | _ => false
  | .ors es, e => match e with | .BoolOp .Or xs _ => chkEs c es xs | _ => false
  | .ite t a b, e => match e with | .IfExp x y z _ => chkT c t x && (chkE c a y && chkE c b z) | _ => false
  | .tup es, e => match e with | .Tuple xs _ _ => chkEs c es xs | _ => false
  | .fz l, e => chkL c l e
  | .ix a b, e => match e with | .Subscript x y _ => notSlice y && (chkE c a x && chkE c b y) | _ => false
  | .ixv i b, e => match e with | .Subscript (.Name x _) y _ => notSlice y && (nmB c i x && chkE c b y) | _ => false
  | .lenv i, e => match e with | .Call (.Name f _) [.Name x _] [] _ => bltB c f "len" && nmB c i x | _ => false
  | .bi f es, e => match e with | .Call (.Name x _) (y :: ys) [] _ => (if biM f = true then mthB c x (biN f) else bltB c x (biN f)) && chkEs c es (y :: ys) | _ => false
  | .call k es, e => match e with | .Call (.Name x _) xs [] _ => c.fs[k]? == some x && (glB c.sc x && (!oddB x && chkEs c es xs)) | _ => false
  | .callS k i es, e => match e with | .Call (.Name x _) (.Name y _ :: xs) [] _ => c.fs[k]? == some x && (glB c.sc x && (!oddB x && (nmB c i y && chkEs c es xs))) | _ => false
  | .slT a lo hi, e => match e with | .Subscript x (.Slice l h none _) _ => chkE c a x && (chkOe c lo l && chkOe c hi h) | _ => false
  | .tyIs ne a t, e => match e with | .Compare (.Call (.Name f _) [x] [] _) [p] [.Name y _] _ => p == (if ne = true then .NotEq else .Eq) && (bltB c f "type" && (bltB c y (Str.ofString t) && (tyN.contains t && (notStar x && chkE c a x)))) | _ => false
  | .bk a lo hi, e => match e with | .Subscript x (.Slice l h (some (.UnaryOp .USub y _)) _) _ => isIntC 1 y && (chkE c a x && (chkOe c lo l && chkOe c hi h)) | _ => false
  | .tyIn ne a t1 t2, e => match e with | .Compare (.Call (.Name f _) [x] [] _) [p] [.Tuple [.Name y _, .Name z _] _ _] _ => p == (if ne = true then .NotIn else .In) && (bltB c f "type" && (bltB c y (Str.ofString t1) && (bltB c z (Str.ofString t2) && (tyN.contains t1 && (tyN.contains t2 && (notStar x && chkE c a x)))))) | _ => false
  | .inn ne a b, e => match e with | .Compare l [p] [r] _ => p == (if ne = true then .NotIn else .In) && (notSet r && (chkE c a l && chkE c b r)) | _ => false
  | .innv ne a i, e => match e with | .Compare l [p] [.Name x _] _ => p == (if ne = true then .NotIn else .In) && (nmB c i x && chkE c a l) | _ => false
def chkOe (c : Ck) : Oe → Option Expr → Bool
  | .no, x => x.isNone
  | .so e, x => match x with | some y => chkE c e y | none => false
def chkEs (c : Ck) : Es → List Expr → Bool
  | .nil, xs => xs.isEmpty
  | .cons e es, xs => match xs with | x :: ys => notStar x && (chkE c e x && chkEs c es ys) | [] => false
def chkL (c : Ck) : L → Expr → Bool
  | .lst es, e => match e with | .List xs _ => chkEs c es xs | _ => false
  | .rep a b, e => match e with | .BinOp l .Mult r _ => chkL c a l && chkE c b r | _ => false
  | .cat a b, e => match e with | .BinOp l .Add r _ => chkE c a l && chkE c b r | _ => false
  | .slc a lo hi, e => match e with | .Subscript x (.Slice l h none _) _ => chkE c a x && (chkOe c lo l && chkOe c hi h) | _ => false
  | .bl f es, e => match e with | .Call (.Name x _) (y :: ys) [] _ => bltB c x (blN f) && chkEs c es (y :: ys) | _ => false
  | .lc own g it elt, e => match e with
    | .ListComp y [⟨tg, iter, [], 0⟩] scope _ => blkB c.N c.sc scope (ownN c.N own) && (((ownN c.N own).map (·.2) == own) && (notSet iter && (chkI c it tg iter && (chkG (c.in scope) g tg && chkE (c.in scope) elt y))))
    | _ => false
  | .lcIf own g it t elt, e => match e with
    | .ListComp y [⟨tg, iter, [z], 0⟩] scope _ => blkB c.N c.sc scope (ownN c.N own) && (((ownN c.N own).map (·.2) == own) && (notSet iter && (chkI c it tg iter && (chkG (c.in scope) g tg && (chkT (c.in scope) t z && chkE (c.in scope) elt y)))))
    | _ => false
  | .lc2 own v1 g it g1 it1 elt, e => match e with
    | .ListComp y [⟨tg, iter, [], 0⟩, ⟨tg1, iter1, [], 0⟩] scope _ => blkB c.N c.sc scope (ownN c.N own) && (((ownN c.N own).map (·.2) == own) && (v1.all (own.contains ·) && (notSet iter && (notSet iter1 && (chkI c it tg iter && (chkG (c.in scope) g tg && (chkI (c.in scope) it1 tg1 iter1 && (chkG (c.in scope) g1 tg1 && chkE (c.in scope) elt y))))))))
    | _ => false
def chkT (c : Ck) : T → Expr → Bool
  | .val e, x => match x with
    | .Compare .. => chkE c e x
    | _ => plainT x && chkE c e x
  | .nt t, e => match e with | .UnaryOp .Not l _ => chkT c t l | _ => false
  | .ands ts, e => match e with | .BoolOp .And xs _ => chkTs c ts xs | _ => false
  | .ors ts, e => match e with | .BoolOp .Or xs _ => chkTs c ts xs | _ => false
def chkTs (c : Ck) : Ts → List Expr → Bool
  | .one t, xs => match xs with | [x] => chkT c t x | _ => false
  | .cons t ts, xs => match xs with | x :: y :: ys => chkT c t x && chkTs c ts (y :: ys) | _ => false
def chkI (c : Ck) : I → Expr → Expr → Bool
  | .seq a, _, e => chkE c a e
  | .rng a, _, e => match e with | .Call (.Name f _) [x] [] _ => bltB c f "range" && (notStar x && chkE c a x) | _ => false
  | .rng2 a b, _, e => match e with | .Call (.Name f _) [x, y] [] _ => bltB c f "range" && (notStar x && (notStar y && (chkE c a x && chkE c b y))) | _ => false
  | .enum a, tg, e => match tg, e with | .Tuple .., .Call (.Name f _) [x] [] _ => bltB c f "enumerate" && (notStar x && chkE c a x) | _, _ => false
  | .zip a b, tg, e => match tg, e with | .Tuple .., .Call (.Name f _) [x, y] [] _ => bltB c f "zip" && (notStar x && (notStar y && (chkE c a x && chkE c b y))) | _, _ => false
  | .zip3 a b d, tg, e => match tg, e with | .Tuple .., .Call (.Name f _) [x, y, z] [] _ => bltB c f "zip" && (notStar x && (notStar y && (notStar z && (chkE c a x && (chkE c b y && chkE c d z))))) | _, _ => false
  | .vals a, _, e => match e with | .Call (.Attribute x m p) [] [] q => m == ("values" : Str) && (p.endLine == q.line && (notCall x && chkE c a x)) | _ => false
  | .items a, tg, e => match tg, e with | .Tuple .., .Call (.Attribute x m p) [] [] q => m == ("items" : Str) && (p.endLine == q.line && (notCall x && chkE c a x)) | _, _ => false
def notCall : Expr → Bool
  | .Call (.Name f _) [] [] _ => !(f == ("super" : Str))
  | _ => true
def chkG (c : Ck) : G → Expr → Bool
  | .nm i, e => match e with | .Name x _ => loB c i x | _ => false
  | .tup gs, e => match e with | .Tuple xs _ _ => chkGs c gs xs | _ => false
def chkGs (c : Ck) : Gs → List Expr → Bool
  | .nil, xs => xs.isEmpty
  | .cons g gs, xs => match xs with | x :: ys => notStar x && (chkG c g x && chkGs c gs ys) | [] => false
end
def L.lcs : L → Bool
  | .lc .. => true
  | .lcIf .. => true
  | _ => false
def swName (sc : Scope) (line : Nat) : Expr → Option Str
  | .Name id pos => if (sc.names.lookup id == some .local && pos.line == line) = true then some id else none
  | _ => none
/-- which stores are swapped: none where the machine doesn't say -/
def swS (sc : Scope) (ts vs : List Expr) : Option (Option (List Str)) :=
  if (!(ts.length == 2 || ts.length == 3) || vs.length != ts.length) = true then some none else
  if vs.all notStar = true then
    if ((ts.filterMap (swName sc ((ts.head?.map (·.pos.line)).getD 0))).length != ts.length || (ts.filterMap (swName sc ((ts.head?.map (·.pos.line)).getD 0))).eraseDups.length != (ts.filterMap (swName sc ((ts.head?.map (·.pos.line)).getD 0))).length) = true then some none else
    if vs.all (foldedForSure 8) = true then some none else
    if vs.all (constantsAlone 8) = true then none else some (some (ts.filterMap (swName sc ((ts.head?.map (·.pos.line)).getD 0))))
  else some none
def distinct : List Nat → Bool
  | [] => true
  | i :: is => !is.contains i && distinct is
def chkMs (c : Ck) : Ms → List Expr → Bool
  | .nil, xs => xs.isEmpty
  | .e e ms, xs => match xs with | x :: ys => notStar x && (chkE c e x && chkMs c ms ys) | [] => false
  | .l l ms, xs => match xs with | x :: ys => notStar x && (chkL c l x && chkMs c ms ys) | [] => false
  | .t ms, xs => match xs with | .Dict [] [] _ :: ys => chkMs c ms ys | _ => false
mutual
def chkS (c : Ck) : S → Stmt → Bool
  | .asg i e, s => match s with | .Assign [.Name x _] v _ => loB c i x && (notComp v && chkE c e v) | _ => false
  | .asgL i l, s => match s with
    | .Assign [.Name x p] v _ => loB c i x && (chkL c l v && ((notComp v || c.sc.names.lookup x == some .cell) || (l.lcs && (c.sc.names.lookup x == some .local && (c.sc.kind == .function && (match v with
      | .ListComp _ _ scope q => p.line == q.line && !(scope.names.any fun (n, k) => n == x && (k == .local || k == .cell))
      | _ => false))))))
    | _ => false
  | .asgLL i own g it l, s => match s with
    | .Assign [.Name x p] (.ListComp y [⟨tg, iter, [], 0⟩] scope q) _ => loc1B c i x && ((p.line == q.line && !(scope.names.any fun (n, k) => n == x && (k == .local || k == .cell))) && (c.sc.kind == .function && (blkB c.N c.sc scope (ownN c.N own) && (((ownN c.N own).map (·.2) == own) && (notSet iter && (chkI c it tg iter && (chkG (c.in scope) g tg && chkL (c.in scope) l y)))))))
    | _ => false
  | .asgT g e, s => match s with
    | .Assign [.Tuple ts k p] v _ => chkG c g (.Tuple ts k p) && (notComp v && (chkE c e v && (match v with
      | .Tuple vs _ _ => c.sc.kind == .function && swS c.sc ts vs == some none
      | _ => notTup v)))
    | _ => false
  | .par is ms, s => match s with
    | .Assign [.Tuple ts _ _] (.Tuple vs _ _) _ => c.sc.kind == .function && (distinct is && (is.length == ts.length && ((swS c.sc ts vs == some (some (is.filterMap fun i => c.N[i]?))) && ((is.filterMap fun i => c.N[i]?).length == is.length && chkMs c ms vs))))
    | _ => false
  | .app i e, s => match s with | .Expr (.Call (.Attribute (.Name x _) m p) [v] [] q) _ => m == ("append" : Str) && (p.endLine == q.line && (nmB c i x && (notStar v && chkE c e v))) | _ => false
  | .ext i e, s => match s with | .Expr (.Call (.Attribute (.Name x _) m p) [v] [] q) _ => m == ("extend" : Str) && (p.endLine == q.line && (nmB c i x && (notStar v && chkE c e v))) | _ => false
  | .popAt j i e, s => match s with | .Assign [.Name y _] (.Call (.Attribute (.Name x _) m p) [v] [] q) _ => m == ("pop" : Str) && (p.endLine == q.line && (loB c j y && (nmB c i x && (notStar v && chkE c e v)))) | _ => false
  | .ret e, s => match s with | .Return (some v) _ => chkE c e v | _ => false
  | .ret0, s => match s with | .Return none _ => true | _ => false
  | .ife t a b, s => match s with | .If x y z _ => chkT c t x && (chkSs c a y && chkSs c b z) | _ => false
  | .for_ g it b, s => match s with | .For tg iter body [] _ => notSet iter && (chkI c it tg iter && (chkG c g tg && chkSs c b body)) | _ => false
  | .whl t b, s => match s with | .While x body [] _ => chkT c t x && chkSs c b body | _ => false
  | .ex e, s => match s with | .Expr v _ => notComp v && chkE c e v | _ => false
  | .putK i k e, s => match s with | .Assign [.Subscript (.Name x _) (.Constant (.str y) _ _) _] v _ => y == k && (nmB c i x && (notComp v && chkE c e v)) | _ => false
  | .putT i k e, s => match s with | .Assign [.Subscript (.Name x _) y _] v _ => nmB c i x && (notSlice y && (notComp v && (chkE c k y && chkE c e v))) | _ => false
  | .newT i, s => match s with | .Assign [.Name x _] (.Dict [] [] _) _ => loB c i x | _ => false
  | .asgK i k es, s => match s with | .Assign [.Name y _] (.Call (.Name x _) (z :: xs) [] _) _ => loB c i y && (c.fs[k]? == some x && (glB c.sc x && (!oddB x && chkEs c es (z :: xs)))) | _ => false
  | .setLL i w p e, s => match s with | .Assign [.Subscript (.Subscript (.Name x _) y _) z _] v _ => nmB c i x && (notSlice y && (notSlice z && (notComp v && (chkE c w y && (chkE c p z && chkE c e v))))) | _ => false
  | .pass, s => match s with | .Pass _ => true | _ => false
  | .tryT b, s => match s with | .Try ss (_ :: _) [] [] _ => chkSs c b ss | _ => false
  | .bad, _ => true
def chkSs (c : Ck) : Ss → List Stmt → Bool
  | .nil, ss => ss.isEmpty
  | .cons s ss, xs => match xs with | x :: ys => chkS c s x && chkSs c ss ys | [] => false
end
end Ewl
-- RS4
set_option Elab.async false
set_option linter.all false
set_option maxRecDepth 100000
set_option maxHeartbeats 4000000
/-! math.lcm of two numbers, as long as one wants. By an AI agent. -/
namespace Ewl
open PySem L2 PyProof.Rows
def lcmOk (a b : Int) : Prop := a.natAbs < 2 ^ 13000 ∧ b.natAbs < 2 ^ 13000 ∧ (((Nat.lcm a.natAbs b.natAbs : Nat) : Int)).natAbs.log2 < bitsLine
instance (a b : Int) : Decidable (lcmOk a b) := inferInstanceAs (Decidable (_ ∧ _ ∧ _))
def rLcm : List V → Hp → VK → Prop := fun vs H Q => ∃ a b : Int, vs = [.int a, .int b] ∧ lcmOk a b ∧ Q (.int ((Nat.lcm a.natAbs b.natAbs : Nat) : Int)) H
theorem log30 {n : Nat} (h : n < 2 ^ 13000) : ¬ n.log2 / 30 + 1 > 450 := by
  have : n.log2 ≤ 13000 := by
    by_cases hn : n = 0
    · subst hn; decide
    · exact Nat.le_of_lt ((Nat.log2_lt hn).mpr h)
  omega
theorem cr_lcm {X : Cx} : CallR X (.builtin "math.lcm") rLcm := by
  intro pins s σ H vs us Q I r h
  obtain ⟨a, b, rfl, ⟨h1, h2, h3⟩, q⟩ := h
  obtain ⟨t, u, rfl⟩ := Vals.int2 r
  have one : 1 < 2 ^ 13000 := Nat.one_lt_two_pow (by decide)
  have g := PySem.W.mg_run_lcm a t b u (log30 (Nat.max_lt.mpr ⟨one, h1⟩)) (log30 (Nat.max_lt.mpr ⟨h1, h2⟩)) (by rw [PySem.W.mc_lcm_one]; exact h3)
  rw [PySem.W.mc_lcm_one] at g
  exact call_function_meets PySem.W.MGF.kind_lcm PySem.W.MGF.plain_lcm PySem.W.MGF.entry_lcm (PySem.W.MGF.args_lcm _ _) g.meets ⟨.int _, H, I.tok _, ⟨_, rfl⟩, q⟩
theorem rc_lcm {K : PySem.W.Frag} {i j : Int} (h : lcmOk i j) : RC K rLcm [.int i, .int j] (.int ((Nat.lcm i.natAbs j.natAbs : Nat) : Int)) := .mk fun {G H vs} s a Q q => by
  cases a with
  | cons a r => cases r with
    | cons b r => cases r; cases a; cases b; exact ⟨i, j, rfl, h, q _ G H (.refl s) (.int _)⟩
end Ewl
-- RD2
set_option Elab.async false
set_option linter.all false
set_option maxRecDepth 100000
set_option maxHeartbeats 4000000
/-! What the trees do on data. -/
namespace Ewl
open PySem L2

/-! ### equality -/
mutual
def beqP : PyData → PyData → Bool
  | .none, .none => true
  | .bool a, .bool b => a == b
  | .int a, .int b => a == b
  | .str a, .str b => a == b
  | .list a, .list b => beqPs a b
  | .tuple a, .tuple b => beqPs a b
  | .dict a, .dict b => beqPd a b
  | _, _ => false
def beqPs : List PyData → List PyData → Bool
  | [], [] => true
  | a :: as, b :: bs => beqP a b && beqPs as bs
  | _, _ => false
def beqPd : List (PyData × PyData) → List (PyData × PyData) → Bool
  | [], [] => true
  | (a, x) :: as, (b, y) :: bs => beqP a b && (beqP x y && beqPd as bs)
  | _, _ => false
end
mutual
theorem eq_of_beqP : ∀ {a b : PyData}, beqP a b = true → a = b
  | .none, b, h => by cases b <;> simp_all [beqP]
  | .bool _, b, h => by cases b <;> simp_all [beqP]
  | .int _, b, h => by cases b <;> simp_all [beqP]
  | .str _, b, h => by cases b <;> simp_all [beqP]
  | .list as, b, h => by
    cases b <;> simp only [beqP] at h
    case list bs => rw [eq_of_beqPs h]
    all_goals cases h
  | .tuple as, b, h => by
    cases b <;> simp only [beqP] at h
    case tuple bs => rw [eq_of_beqPs h]
    all_goals cases h
  | .dict as, b, h => by
    cases b <;> simp only [beqP] at h
    case dict bs => rw [eq_of_beqPd h]
    all_goals cases h
theorem eq_of_beqPs : ∀ {a b : List PyData}, beqPs a b = true → a = b
  | [], [], _ => rfl
  | a :: as, b :: bs, h => by
    simp only [beqPs, Bool.and_eq_true] at h
    rw [eq_of_beqP h.1, eq_of_beqPs h.2]
  | [], _ :: _, h => by simp [beqPs] at h
  | _ :: _, [], h => by simp [beqPs] at h
theorem eq_of_beqPd : ∀ {a b : List (PyData × PyData)}, beqPd a b = true → a = b
  | [], [], _ => rfl
  | (a, x) :: as, (b, y) :: bs, h => by
    simp only [beqPd, Bool.and_eq_true] at h
    rw [eq_of_beqP h.1, eq_of_beqP h.2.1, eq_of_beqPd h.2.2]
  | [], _ :: _, h => by simp [beqPd] at h
  | _ :: _, [], h => by simp [beqPd] at h
end
mutual
theorem beqP_self : ∀ a : PyData, beqP a a = true
  | .none => rfl
  | .bool _ => by simp [beqP]
  | .int _ => by simp [beqP]
  | .str _ => by simp [beqP]
  | .list as => by simp only [beqP]; exact beqPs_self as
  | .tuple as => by simp only [beqP]; exact beqPs_self as
  | .dict as => by simp only [beqP]; exact beqPd_self as
theorem beqPs_self : ∀ a : List PyData, beqPs a a = true
  | [] => rfl
  | a :: as => by simp only [beqPs, beqP_self a, beqPs_self as, Bool.and_self]
theorem beqPd_self : ∀ a : List (PyData × PyData), beqPd a a = true
  | [] => rfl
  | (a, x) :: as => by simp only [beqPd, beqP_self a, beqP_self x, beqPd_self as, Bool.and_self]
end
instance : DecidableEq PyData := fun a b => if h : beqP a b = true then .isTrue (eq_of_beqP h) else .isFalse fun e => h (e ▸ beqP_self a)
def beqSl : Sl → Sl → Bool
  | .x, .x => true
  | .d a, .d b => decide (a = b)
  | .l a, .l b => decide (a = b)
  | .ll a, .ll b => decide (a = b)
  | .dk o a, .dk o' b => decide (o = o') && decide (a = b)
  | .dt a, .dt b => decide (a = b)
  | _, _ => false
theorem eq_of_beqSl {a b : Sl} (h : beqSl a b = true) : a = b := by
  cases a <;> cases b <;> simp_all [beqSl]
theorem beqSl_self (a : Sl) : beqSl a a = true := by cases a <;> simp [beqSl]
instance : DecidableEq Sl := fun a b => if h : beqSl a b = true then .isTrue (eq_of_beqSl h) else .isFalse fun e => h (e ▸ beqSl_self a)
instance (ds : List PyData) : Decidable (PySem.W.AllAlike ds) := inferInstanceAs (Decidable (∀ d ∈ ds, ∀ d' ∈ ds, PySem.W.alike d d' = true))
instance (ds : List PyData) : Decidable (PySem.W.AlikeAll ds) := inferInstanceAs (Decidable ((∀ d ∈ ds, ∀ d' ∈ ds, PySem.W.alike d d' = true) ∧ ∀ d ∈ ds, d ≠ .none))
def tupNe : PyData → Bool
  | .tuple (_ :: _) => true
  | _ => false
def noTupNone : PyData → Bool
  | .none => false
  | .tuple _ => false
  | _ => true
theorem sortable_iff (ds : List PyData) : ((ds.all tupNe || ds.all noTupNone) = true) ↔ PySem.W.Sortable ds := by
  rw [Bool.or_eq_true, List.all_eq_true, List.all_eq_true]
  unfold PySem.W.Sortable
  constructor
  · rintro (h | h)
    · refine .inl fun d hd => ?_
      have := h d hd
      unfold tupNe at this
      split at this
      · exact ⟨_, _, rfl⟩
      · cases this
    · refine .inr fun d hd => ?_
      have := h d hd
      unfold noTupNone at this
      split at this
      · cases this
      · cases this
      · rename_i h1 h2; exact ⟨h1, h2⟩
  · rintro (h | h)
    · refine .inl fun d hd => ?_
      obtain ⟨x, r, rfl⟩ := h d hd
      rfl
    · refine .inr fun d hd => ?_
      obtain ⟨h1, h2⟩ := h d hd
      unfold noTupNone
      split
      · exact absurd rfl h1
      · exact absurd rfl (h2 _)
      · rfl
instance (ds : List PyData) : Decidable (PySem.W.Sortable ds) := decidable_of_iff _ (sortable_iff ds)

def negIf (ne : Bool) (k : Bool) : Bool := if ne = true then !k else k
/-! ### operations -/
def binD : Bin → PyData → PyData → Oc PyData
  | .add, .int i, .int j => .ok (.int (i + j))
  | .sub, .int i, .int j => .ok (.int (i - j))
  | .mul, .int i, .int j => if i.natAbs.log2 + j.natAbs.log2 < 1000000 then .ok (.int (i * j)) else .un
  | .fdiv, .int i, .int j => if 0 < j ∧ j.natAbs.log2 < 9000 then .ok (.int (i / j)) else .un
  | .mod, .int i, .int j => if 0 < j then .ok (.int (i % j)) else .un
  | .pow, .int i, .int j => if 0 ≤ j ∧ j ≤ 1000 ∧ i.natAbs < 2 ^ 64 then .ok (.int (i ^ j.toNat)) else .un
  | .add, .tuple xs, .tuple ys => if xs.length + ys.length ≤ 100000 then .ok (.tuple (xs ++ ys)) else .un
  | .mul, .tuple xs, .int k => if 1 ≤ k ∧ k ≤ 1000 ∧ xs ≠ [] ∧ xs.length ≤ 1000 then .ok (.tuple (List.replicate k.toNat xs).flatten) else .un
  | _, _, _ => .un
def ordOk (d e : PyData) : Bool := PySem.W.alike d e && (match d with | .none => false | _ => true) && decide (min d.depth e.depth ≤ 8) && !d.hasDict && !e.hasDict
def isNoneD : PyData → Bool
  | .none => true
  | _ => false
def cmpD : Cmp → PyData → PyData → Oc Bool
  | .eq, d, e => if SeqAt.shaped d = true ∧ SeqAt.shaped e = true then .ok (PyData.eqv d e) else .un
  | .ne, d, e => if SeqAt.shaped d = true ∧ SeqAt.shaped e = true then .ok (!PyData.eqv d e) else .un
  | .lt, .int i, .int j => .ok (decide (i < j))
  | .le, .int i, .int j => .ok (decide (i ≤ j))
  | .gt, .int i, .int j => .ok (decide (j < i))
  | .ge, .int i, .int j => .ok (decide (j ≤ i))
  | .lt, d, e => if ordOk d e = true then .ok (PySem.W.dataLt d e) else .un
  | .le, d, e => if ordOk d e = true then .ok (!PySem.W.dataLt e d) else .un
  | .ge, d, e => if ordOk d e = true then .ok (!PySem.W.dataLt d e) else .un
  | .is, d, .none => .ok (isNone d)
  | .isN, d, .none => .ok (!isNone d)
  | _, _, _ => .un
def negD : PyData → Oc PyData
  | .int i => .ok (.int (-i))
  | _ => .un
def boolD : PyData → Oc Bool
  | .bool b => .ok b
  | _ => .un
def listD : PyData → Oc (List PyData)
  | .list xs => .ok xs
  | _ => .un
def intD : PyData → Oc Int
  | .int i => .ok i
  | _ => .un
def seqD : PyData → Oc (List PyData)
  | .list xs => .ok xs
  | .tuple xs => .ok xs
  | _ => .un
def tupD : PyData → Oc (List PyData)
  | .tuple xs => .ok xs
  | _ => .un
/-- all ints -/
def intsD : List PyData → Oc (List Int)
  | [] => .ok []
  | d :: ds => intD d >>= fun i => intsD ds >>= fun is => .ok (i :: is)
def boolsD : List PyData → Oc (List Bool)
  | [] => .ok []
  | d :: ds => boolD d >>= fun i => boolsD ds >>= fun is => .ok (i :: is)
def ixD : PyData → PyData → Oc PyData
  | .list xs, .int i => ofO (atI xs i)
  | .tuple xs, .int i => ofO (atI xs i)
  | d, e => match dictV d, keyOf e, tkeyOf e with
    | some (.k kvs), some k, _ => ofO (valD kvs k)
    | some (.t kvs), _, some k => ofO (valD kvs k)
    | _, _, _ => .un
def innD (d e : PyData) : Oc Bool :=
  match dictV e, keyOf d, tkeyOf d with
  | some (.k kvs), some k, _ => .ok (valD kvs k).isSome
  | some (.t kvs), _, some k => .ok (valD kvs k).isSome
  | _, _, _ => .un
def lenD : PyData → Oc PyData
  | .list xs => .ok (.int xs.length)
  | .tuple xs => .ok (.int xs.length)
  | _ => .un
def isSeqD : PyData → Bool
  | .list _ => true
  | .tuple _ => true
  | _ => false
def biD : Bi → List PyData → Oc PyData
  | .len, [d] => lenD d
  | .sum, [d] => seqD d >>= fun xs => intsD xs >>= fun is => .ok (.int is.sum)
  | .abs, [.int i] => .ok (.int (if i < 0 then -i else i))
  | .int, [.bool b] => .ok (.int (if b then 1 else 0))
  | .int, [.int b] => .ok (.int b)
  | .gcd, [.int i, .int j] => .ok (.int ((Nat.gcd i.natAbs j.natAbs : Nat) : Int))
  | .lcm, [.int i, .int j] => if lcmOk i j then .ok (.int ((Nat.lcm i.natAbs j.natAbs : Nat) : Int)) else .un
  | .min, [x, y] => if PySem.W.AlikeAll [x, y] ∧ PyData.depthAll [x, y] ≤ 8 then .ok (if PySem.W.dataLt y x = true then y else x) else .un
  | .max, [x, y] => if PySem.W.AlikeAll [x, y] ∧ PyData.depthAll [x, y] ≤ 8 then .ok (if PySem.W.dataLt x y = true then y else x) else .un
  | .min, [.int a, .int b, .int c] => .ok (.int (min a (min b c)))
  | .tuple, [d] => seqD d >>= fun xs => .ok (.tuple xs)
  | .repr, [d] => if isSeqD d = true ∧ d.showable = true ∧ d.hasDict = false ∧ d.depth ≤ 8 ∧ d.shown.length ≤ sizeLine then .ok (.str d.shown) else .un
  | _, _ => .un
def blD : Bl → List PyData → Oc (List PyData)
  | .list, [d] => seqD d
  | .sorted, [d] => seqD d >>= fun ds => if PySem.W.AllAlike ds ∧ PySem.W.Sortable ds ∧ (∀ d ∈ ds, d.depth ≤ 8) then .ok (srtD ds) else .un
  | _, _ => .un

/-- xs[lo:hi:-1] -/
def backD (xs : List PyData) (lo hi : Option Int) : List PyData :=
  (List.range (Builtin.Slice.slicePlaces (Builtin.Slice.sliceAdjust lo hi (-1) (xs.length : Int)).1 (Builtin.Slice.sliceAdjust lo hi (-1) (xs.length : Int)).2 (-1))).filterMap fun (k : Nat) => xs[((Builtin.Slice.sliceAdjust lo hi (-1) (xs.length : Int)).1 + (k : Int) * (-1)).toNat]?

/-! ### slots -/
abbrev Sls := List Sl
def setS (s : Sls) (i : Nat) (v : Sl) : Oc Sls := if i < s.length then .ok (s.set i v) else .un
/-- a slot read as data: what is one's own is data from then on -/
def rdS (s : Sls) (i : Nat) : Oc (Sls × PyData) :=
  match s[i]? with
  | some (.d d) => .ok (s, d)
  | some (.l xs) => .ok (s.set i (.d (.list xs)), .list xs)
  | some (.ll xss) => .ok (s.set i (.d (.list (xss.map PyData.list))), .list (xss.map PyData.list))
  | some (.dk _ kvs) => .ok (s.set i (.d (dKd kvs)), dKd kvs)
  | some (.dt kvs) => .ok (s.set i (.d (dTd kvs)), dTd kvs)
  | _ => .un
def rdL (s : Sls) (i : Nat) : Oc (List PyData) :=
  match s[i]? with
  | some (.l xs) => .ok xs
  | _ => .un
def rdLL (s : Sls) (i : Nat) : Oc (List (List PyData)) :=
  match s[i]? with
  | some (.ll xs) => .ok xs
  | _ => .un
def rdK (s : Sls) (i : Nat) : Oc (Option Addr × List (Key × PyData)) :=
  match s[i]? with
  | some (.dk o kvs) => .ok (o, kvs)
  | _ => .un
def rdT (s : Sls) (i : Nat) : Oc (List (List Key × PyData)) :=
  match s[i]? with
  | some (.dt kvs) => .ok kvs
  | _ => .un
/-- its length, read and let be -/
def lenS (s : Sls) (i : Nat) : Oc PyData :=
  match s[i]? with
  | some (.l xs) => .ok (.int xs.length)
  | some (.d d) => lenD d
  | _ => .un

/-- what a called def does -/
inductive Fk where
  | dd (f : List PyData → Oc PyData)
  | ss (f : Addr → List (Key × PyData) → List PyData → Oc (List (Key × PyData) × PyData))
  | kk (f : List PyData → Oc (List (Key × PyData)))
def callD (tb : List Fk) (k : Nat) (ds : List PyData) : Oc PyData :=
  match tb[k]? with
  | some (.dd f) => f ds
  | _ => .un
/-- what it does wherever the dict stands -/
noncomputable def atAll (f : Addr → Oc (List (Key × PyData) × PyData)) : Oc (List (Key × PyData) × PyData) :=
  open Classical in if h : ∃ r, ∀ p, f p = .ok r then .ok h.choose else .un
theorem atAll_ok {f : Addr → Oc (List (Key × PyData) × PyData)} {r : List (Key × PyData) × PyData} (h : ∀ p, f p = .ok r) : atAll f = .ok r := by
  unfold atAll
  rw [dif_pos ⟨r, h⟩]
  have hs := (⟨r, h⟩ : ∃ r, ∀ p, f p = .ok r).choose_spec 0
  rw [h 0] at hs
  rw [← hs]
theorem of_atAll {f : Addr → Oc (List (Key × PyData) × PyData)} {r : List (Key × PyData) × PyData} (h : atAll f = .ok r) : ∀ p, f p = .ok r := by
  unfold atAll at h
  split at h
  · rename_i c
    cases h
    exact c.choose_spec
  · cases h
noncomputable def callSD (tb : List Fk) (k : Nat) (kvs : List (Key × PyData)) (ds : List PyData) : Oc (List (Key × PyData) × PyData) :=
  match tb[k]? with
  | some (.ss f) => atAll fun p => f p kvs ds
  | _ => .un
def callKD (tb : List Fk) (k : Nat) (ds : List PyData) : Oc (List (Key × PyData)) :=
  match tb[k]? with
  | some (.kk f) => f ds
  | _ => .un
/-- an exception leaves with the slots as they stand here -/
def Oc.here {α : Type} (s : Sls) : Oc α → Oc α
  | .ex _ x => .ex s x
  | o => o

/-! ### walks -/
def lcF (own : List Nat) (step : Sls → PyData → Oc (Sls × PyData)) : List PyData → Sls → Oc (Sls × List PyData)
  | [], s => .ok (s, [])
  | d :: ds, s => step s d >>= fun p => lcF own step ds (wipeS p.1 own) >>= fun q => .ok (q.1, p.2 :: q.2)
def lcIfF (own : List Nat) (step : Sls → PyData → Oc (Sls × Option PyData)) : List PyData → Sls → Oc (Sls × List PyData)
  | [], s => .ok (s, [])
  | d :: ds, s => step s d >>= fun p => lcIfF own step ds (wipeS p.1 own) >>= fun q => .ok (q.1, p.2.toList ++ q.2)
def lcLF (own : List Nat) (step : Sls → PyData → Oc (Sls × List PyData)) : List PyData → Sls → Oc (Sls × List (List PyData))
  | [], s => .ok (s, [])
  | d :: ds, s => step s d >>= fun p => lcLF own step ds (wipeS p.1 own) >>= fun q => .ok (q.1, p.2 :: q.2)
/-- an inner walk, whose elements leave the slots alone but for what they are given to -/
def lc1F (step : PyData → Oc PyData) : List PyData → Oc (List PyData)
  | [] => .ok []
  | d :: ds => step d >>= fun p => lc1F step ds >>= fun q => .ok (p :: q)
def lc2F (step : PyData → Oc (List PyData)) : List PyData → Oc (List PyData)
  | [] => .ok []
  | d :: ds => step d >>= fun p => lc2F step ds >>= fun q => .ok (p ++ q)
def forF (step : Sls → PyData → Oc Res) : List PyData → Sls → Oc Res
  | [], s => .ok (.nx s)
  | d :: ds, s => step s d >>= fun r => match r with
    | .nx s' => forF step ds s'
    | .ret s' z => .ok (.ret s' z)
def whlN (c : Sls → Oc (Sls × Bool)) (b : Sls → Oc Res) : Nat → Sls → Oc Res
  | 0, _ => .un
  | n + 1, s => c s >>= fun p => match p.2 with
    | false => .ok (.nx p.1)
    | true => b p.1 >>= fun r => match r with
      | .nx s' => whlN c b n s'
      | .ret s' z => .un
def fuel : Nat := 2 ^ 32
def whlF (c : Sls → Oc (Sls × Bool)) (b : Sls → Oc Res) (s : Sls) : Oc Res := whlN c b fuel s

def rngOk (j : Int) : Prop := -(2 ^ 62) ≤ j ∧ j < 2 ^ 62
instance (j : Int) : Decidable (rngOk j) := inferInstanceAs (Decidable (_ ∧ _))

mutual
def tsG : G → List Nat
  | .nm i => [i]
  | .tup gs => tsGs gs
def tsGs : Gs → List Nat
  | .nil => []
  | .cons g gs => tsG g ++ tsGs gs
end
mutual
def denG : G → Sls → PyData → Oc Sls
  | .nm i, s, d => setS s i (.d d)
  | .tup gs, s, d => tupD d >>= fun ds => denGs gs s ds
def denGs : Gs → Sls → List PyData → Oc Sls
  | .nil, s, ds => match ds with | [] => .ok s | _ :: _ => .un
  | .cons g gs, s, ds => match ds with | [] => .un | d :: ds => denG g s d >>= fun s1 => denGs gs s1 ds
end

/-- what is read without a trace -/
def denQ (s : Sls) : E → Oc PyData
  | .var i => match s[i]? with
    | some (.d d) => .ok d
    | _ => .un
  | .int n => .ok (.int n)
  | .ix a b => denQ s a >>= fun p => denQ s b >>= fun q => tupD p >>= fun xs => intD q >>= fun k => ofO (atI xs k)
  | .ixv i b => (match s[i]? with
    | some (.d d) => .ok d
    | _ => .un) >>= fun p => denQ s b >>= fun q => tupD p >>= fun xs => intD q >>= fun k => ofO (atI xs k)
  | _ => .un
noncomputable section
mutual
def denE (tb : List Fk) (is : List (Str × Int)) : E → Sls → Oc (Sls × PyData)
  | .var i, s => rdS s i
  | .int n, s => .ok (s, .int n)
  | .bl b, s => .ok (s, .bool b)
  | .str x, s => .ok (s, .str x)
  | .non, s => .ok (s, .none)
  | .glb x, s => ofO (is.lookup x) >>= fun i => .ok (s, .int i)
  | .bin o a b, s => denE tb is a s >>= fun p => denE tb is b p.1 >>= fun q => binD o p.2 q.2 >>= fun z => .ok (q.1, z)
  | .neg a, s => denE tb is a s >>= fun p => negD p.2 >>= fun z => .ok (p.1, z)
  | .cmp o a b, s => denE tb is a s >>= fun p => denE tb is b p.1 >>= fun q => cmpD o p.2 q.2 >>= fun z => .ok (q.1, .bool z)
  | .chain o1 o2 a b c, s => denE tb is a s >>= fun p => denE tb is b p.1 >>= fun q => cmpD o1 p.2 q.2 >>= fun z => match z with
    | false => .ok (q.1, .bool false)
    | true => denE tb is c q.1 >>= fun r => cmpD o2 q.2 r.2 >>= fun z => .ok (r.1, .bool z)
  | .notE a, s => denE tb is a s >>= fun p => boolD p.2 >>= fun b => .ok (p.1, .bool (!b))
  | .ands es, s => denAnd tb is es s >>= fun p => .ok (p.1, .bool p.2)
  | .ors es, s => denOr tb is es s >>= fun p => .ok (p.1, .bool p.2)
  | .ite t a b, s => denT tb is t s >>= fun p => match p.2 with
    | true => denE tb is a p.1
    | false => denE tb is b p.1
  | .tup es, s => denEs tb is es s >>= fun p => (if p.2.length ≤ 1000 then .ok (p.1, .tuple p.2) else .un)
  | .fz l, s => denL tb is l s >>= fun p => .ok (p.1, .list p.2)
  | .ix a b, s => denE tb is a s >>= fun p => denE tb is b p.1 >>= fun q => ixD p.2 q.2 >>= fun z => .ok (q.1, z)
  | .ixv i b, s => match s[i]? with
    | some (.l _) => denE tb is b s >>= fun q => intD q.2 >>= fun k => rdL q.1 i >>= fun xs => ofO (atI xs k) >>= fun z => .ok (q.1, z)
    | some (.d d) => denE tb is b s >>= fun q => ixD d q.2 >>= fun z => .ok (q.1, z)
    | some (.dk _ kvs) => denE tb is b s >>= fun q => ofO (keyOf q.2) >>= fun k => rdK q.1 i >>= fun w => ofO (valD w.2 k) >>= fun z => .ok (q.1, z)
    | some (.dt kvs) => denE tb is b s >>= fun q => ofO (tkeyOf q.2) >>= fun k => rdT q.1 i >>= fun w => ofO (valD w k) >>= fun z => .ok (q.1, z)
    | _ => .un
  | .lenv i, s => lenS s i >>= fun z => .ok (s, z)
  | .bi f es, s => denEs tb is es s >>= fun p => biD f p.2 >>= fun z => .ok (p.1, z)
  | .call k es, s => denEs tb is es s >>= fun p => (callD tb k p.2).here p.1 >>= fun z => .ok (p.1, z)
  | .callS k i es, s => rdK s i >>= fun _ => denEs tb is es s >>= fun p => rdK p.1 i >>= fun w => (callSD tb k w.2 p.2).here p.1 >>= fun z => .ok (p.1.set i (.dk w.1 z.1), z.2)
  | .slT a lo hi, s => denE tb is a s >>= fun p => denOe tb is lo p.1 >>= fun l => denOe tb is hi l.1 >>= fun h => tupD p.2 >>= fun xs => .ok (h.1, .tuple (sliceD xs l.2 h.2))
  | .tyIs ne a t, s => denE tb is a s >>= fun p => match ne with
    | false => .ok (p.1, .bool (decide (tyD p.2 = t)))
    | true => if tyD p.2 = t then .ok (p.1, .bool false) else .un
  | .bk a lo hi, s => denE tb is a s >>= fun p => denOe tb is lo p.1 >>= fun l => denOe tb is hi l.1 >>= fun h => tupD p.2 >>= fun xs => if (backD xs l.2 h.2).length ≤ 1000 then .ok (h.1, .tuple (backD xs l.2 h.2)) else .un
  | .tyIn ne a t1 t2, s => denE tb is a s >>= fun p => .ok (p.1, .bool (negIf ne (decide (t1 = tyD p.2) || decide (t2 = tyD p.2))))
  | .inn ne a b, s => denE tb is a s >>= fun p => denE tb is b p.1 >>= fun q => innD p.2 q.2 >>= fun z => .ok (q.1, .bool (negIf ne z))
  | .innv ne a i, s => denE tb is a s >>= fun p => match p.1[i]? with
    | some (.dk _ kvs) => ofO (keyOf p.2) >>= fun k => .ok (p.1, .bool (negIf ne (valD kvs k).isSome))
    | some (.dt kvs) => ofO (tkeyOf p.2) >>= fun k => .ok (p.1, .bool (negIf ne (valD kvs k).isSome))
    | _ => .un
def denAnd (tb : List Fk) (is : List (Str × Int)) : Es → Sls → Oc (Sls × Bool)
  | .nil, _ => .un
  | .cons e .nil, s => denE tb is e s >>= fun p => boolD p.2 >>= fun b => .ok (p.1, b)
  | .cons e (.cons e2 es), s => denE tb is e s >>= fun p => boolD p.2 >>= fun b => match b with
    | false => .ok (p.1, false)
    | true => denAnd tb is (.cons e2 es) p.1
def denOr (tb : List Fk) (is : List (Str × Int)) : Es → Sls → Oc (Sls × Bool)
  | .nil, _ => .un
  | .cons e .nil, s => denE tb is e s >>= fun p => boolD p.2 >>= fun b => .ok (p.1, b)
  | .cons e (.cons e2 es), s => denE tb is e s >>= fun p => boolD p.2 >>= fun b => match b with
    | true => .ok (p.1, true)
    | false => denOr tb is (.cons e2 es) p.1
def denOe (tb : List Fk) (is : List (Str × Int)) : Oe → Sls → Oc (Sls × Option Int)
  | .no, s => .ok (s, none)
  | .so e, s => denE tb is e s >>= fun p => intD p.2 >>= fun i => .ok (p.1, some i)
def denEs (tb : List Fk) (is : List (Str × Int)) : Es → Sls → Oc (Sls × List PyData)
  | .nil, s => .ok (s, [])
  | .cons e es, s => denE tb is e s >>= fun p => denEs tb is es p.1 >>= fun q => .ok (q.1, p.2 :: q.2)
def denL (tb : List Fk) (is : List (Str × Int)) : L → Sls → Oc (Sls × List PyData)
  | .lst es, s => denEs tb is es s >>= fun p => (if p.2.length ≤ 1000 then .ok p else .un)
  | .rep a b, s => denL tb is a s >>= fun p => denE tb is b p.1 >>= fun q => intD q.2 >>= fun k => if -(2 ^ 63) ≤ k ∧ k < 2 ^ 63 ∧ p.2.length * k.toNat ≤ 100000 then .ok (q.1, (List.replicate k.toNat p.2).flatten) else .un
  | .cat a b, s => denE tb is a s >>= fun p => denE tb is b p.1 >>= fun q => listD p.2 >>= fun xs => listD q.2 >>= fun ys => if xs.length + ys.length ≤ 100000 then .ok (q.1, xs ++ ys) else .un
  | .slc a lo hi, s => denE tb is a s >>= fun p => denOe tb is lo p.1 >>= fun l => denOe tb is hi l.1 >>= fun h => listD p.2 >>= fun xs => .ok (h.1, sliceD xs l.2 h.2)
  | .bl f es, s => denEs tb is es s >>= fun p => blD f p.2 >>= fun z => .ok (p.1, z)
  | .lc own g it elt, s => denI tb is it s >>= fun p => if p.2.length ≤ 100000 ∧ (∀ j ∈ tsG g, j ∈ own) then
      lcF own (fun s d => denG g s d >>= fun m => denE tb is elt m) p.2 (wipeS p.1 own) else .un
  | .lcIf own g it c elt, s => denI tb is it s >>= fun p => if p.2.length ≤ 100000 ∧ (∀ j ∈ tsG g, j ∈ own) then
      lcIfF own (fun s d => denG g s d >>= fun m => denT tb is c m >>= fun t => match t.2 with
        | true => denE tb is elt t.1 >>= fun q => .ok (q.1, some q.2)
        | false => .ok (t.1, none)) p.2 (wipeS p.1 own) else .un
  | .lc2 own v1 g it g1 it1 elt, s => denI tb is it s >>= fun p => if (∀ j ∈ tsG g, j ∈ own) ∧ (∀ j ∈ tsG g1, j ∈ v1) then
      lc2F (fun d => denG g (wipeS p.1 own) d >>= fun m => denI tb is it1 m >>= fun q => if wipeS q.1 own = wipeS p.1 own then
        lc1F (fun d1 => denG g1 (wipeS q.1 v1) d1 >>= fun m1 => denE tb is elt m1 >>= fun r => if r.1 = m1 then .ok r.2 else .un) q.2 else .un) p.2 >>= fun ys => if ys.length ≤ 100000 then .ok (wipeS p.1 own, ys) else .un else .un
def denT (tb : List Fk) (is : List (Str × Int)) : T → Sls → Oc (Sls × Bool)
  | .val e, s => denE tb is e s >>= fun p => boolD p.2 >>= fun b => .ok (p.1, b)
  | .nt t, s => denT tb is t s >>= fun p => .ok (p.1, !p.2)
  | .ands ts, s => denTA tb is ts s
  | .ors ts, s => denTO tb is ts s
def denTA (tb : List Fk) (is : List (Str × Int)) : Ts → Sls → Oc (Sls × Bool)
  | .one t, s => denT tb is t s
  | .cons t ts, s => denT tb is t s >>= fun p => match p.2 with
    | false => .ok (p.1, false)
    | true => denTA tb is ts p.1
def denTO (tb : List Fk) (is : List (Str × Int)) : Ts → Sls → Oc (Sls × Bool)
  | .one t, s => denT tb is t s
  | .cons t ts, s => denT tb is t s >>= fun p => match p.2 with
    | true => .ok (p.1, true)
    | false => denTO tb is ts p.1
def denI (tb : List Fk) (is : List (Str × Int)) : I → Sls → Oc (Sls × List PyData)
  | .seq e, s => denE tb is e s >>= fun p => match p.2 with
    | .list xs => .ok (p.1, xs)
    | .tuple xs => .ok (p.1, xs)
    | d => match dictV d with
      | some (.k kvs) => .ok (p.1, kvs.map fun p => kyD p.1)
      | some (.t kvs) => .ok (p.1, kvs.map fun p => .tuple (p.1.map kyD))
      | _ => .un
  | .rng a, s => denE tb is a s >>= fun p => intD p.2 >>= fun j => if rngOk j then .ok (p.1, rngD 0 j.toNat) else .un
  | .rng2 a b, s => denE tb is a s >>= fun p => denE tb is b p.1 >>= fun q => intD p.2 >>= fun i => intD q.2 >>= fun j => if rngOk i ∧ rngOk j then .ok (q.1, rngD i (j - i).toNat) else .un
  | .enum a, s => denE tb is a s >>= fun p => seqD p.2 >>= fun xs => .ok (p.1, enumD 0 xs)
  | .zip a b, s => denE tb is a s >>= fun p => denE tb is b p.1 >>= fun q => match p.2, q.2 with
    | .tuple xs, .tuple ys => .ok (q.1, zipD xs ys)
    | .list xs, .list ys => .ok (q.1, zipD xs ys)
    | _, _ => .un
  | .zip3 a b c, s => denE tb is a s >>= fun p => denE tb is b p.1 >>= fun q => denE tb is c q.1 >>= fun r => match p.2, q.2, r.2 with
    | .tuple xs, .tuple ys, .tuple zs => if xs.length = ys.length ∧ xs.length = zs.length then .ok (r.1, zip3D xs ys zs) else .un
    | _, _, _ => .un
  | .vals a, s => denE tb is a s >>= fun p => match dictV p.2 with
    | some (.k kvs) => .ok (p.1, kvs.map fun p => p.2)
    | _ => .un
  | .items a, s => denE tb is a s >>= fun p => match dictV p.2 with
    | some (.k kvs) => .ok (p.1, kvs.map fun p => .tuple [kyD p.1, p.2])
    | _ => .un
end
def setAll : Sls → List Nat → List Sl → Oc Sls
  | s, [], [] => .ok s
  | s, i :: is, v :: vs => setS s i v >>= fun s1 => setAll s1 is vs
  | _, _, _ => .un
def denMs (tb : List Fk) (gi : List (Str × Int)) : Ms → Sls → Oc (Sls × List Sl)
  | .nil, s => .ok (s, [])
  | .e e ms, s => denE tb gi e s >>= fun p => denMs tb gi ms p.1 >>= fun q => .ok (q.1, .d p.2 :: q.2)
  | .l l ms, s => denL tb gi l s >>= fun p => denMs tb gi ms p.1 >>= fun q => .ok (q.1, .l p.2 :: q.2)
  | .t ms, s => denMs tb gi ms s >>= fun q => .ok (q.1, .dt [] :: q.2)
mutual
def denS (tb : List Fk) (gi : List (Str × Int)) : S → Sls → Oc Res
  | .asg i e, s => denE tb gi e s >>= fun p => setS p.1 i (.d p.2) >>= fun s => .ok (.nx s)
  | .asgL i l, s => denL tb gi l s >>= fun p => setS p.1 i (.l p.2) >>= fun s => .ok (.nx s)
  | .asgLL i own g it l, s => denI tb gi it s >>= fun p => if p.2.length ≤ 100000 ∧ (∀ j ∈ tsG g, j ∈ own) then
      lcLF own (fun s d => denG g s d >>= fun m => denL tb gi l m) p.2 (wipeS p.1 own) >>= fun q => setS q.1 i (.ll q.2) >>= fun s => .ok (.nx s) else .un
  | .asgT g e, s => denE tb gi e s >>= fun p => denG g p.1 p.2 >>= fun s => .ok (.nx s)
  | .par is ms, s => denMs tb gi ms s >>= fun p => setAll p.1 is p.2 >>= fun s => .ok (.nx s)
  | .app i e, s => rdL s i >>= fun _ => denE tb gi e s >>= fun p => rdL p.1 i >>= fun xs => if xs.length ≤ 100000 then .ok (.nx (p.1.set i (.l (xs ++ [p.2])))) else .un
  | .ext i e, s => rdL s i >>= fun _ => denE tb gi e s >>= fun p => rdL p.1 i >>= fun xs => seqD p.2 >>= fun zs => if xs.length + zs.length ≤ 100000 then .ok (.nx (p.1.set i (.l (xs ++ zs)))) else .un
  | .popAt j i e, s => rdL s i >>= fun _ => denE tb gi e s >>= fun p => rdL p.1 i >>= fun xs => intD p.2 >>= fun k => if 0 ≤ k ∧ xs.length ≤ 100000 then ofO xs[k.toNat]? >>= fun d => setS (p.1.set i (.l (xs.eraseIdx k.toNat))) j (.d d) >>= fun s => .ok (.nx s) else .un
  | .ret e, s => denE tb gi e s >>= fun p => .ok (.ret p.1 p.2)
  | .ret0, s => .ok (.ret s .none)
  | .ife t a b, s => denT tb gi t s >>= fun p => match p.2 with
    | true => denSs tb gi a p.1
    | false => denSs tb gi b p.1
  | .for_ g it b, s => denI tb gi it s >>= fun p => forF (fun s d => denG g s d >>= fun m => denSs tb gi b m) p.2 p.1
  | .whl t b, s => whlF (fun s => denT tb gi t s) (fun s => denSs tb gi b s) s
  | .ex e, s => denE tb gi e s >>= fun p => .ok (.nx p.1)
  | .putK i k e, s => denE tb gi e s >>= fun p => rdK p.1 i >>= fun w => if w.2.length ≤ 1000 then .ok (.nx (p.1.set i (.dk w.1 (putD w.2 (Sum.inr k) p.2)))) else .un
  | .putT i k e, s => denE tb gi e s >>= fun p => rdT p.1 i >>= fun _ => denE tb gi k p.1 >>= fun q => ofO (tkeyOf q.2) >>= fun ks => rdT q.1 i >>= fun w => if w.length ≤ 1000 then .ok (.nx (q.1.set i (.dt (putD w ks p.2)))) else .un
  | .newT i, s => setS s i (.dt []) >>= fun s => .ok (.nx s)
  | .asgK i k es, s => denEs tb gi es s >>= fun p => (callKD tb k p.2).here p.1 >>= fun kvs => setS p.1 i (.dk none kvs) >>= fun s => .ok (.nx s)
  | .setLL i w p e, s => denE tb gi e s >>= fun r => rdLL r.1 i >>= fun xss => denQ r.1 w >>= fun a => denQ r.1 p >>= fun b => intD a >>= fun m => intD b >>= fun n => if 0 ≤ m ∧ 0 ≤ n then ofO xss[m.toNat]? >>= fun xs => if n.toNat < xs.length then .ok (.nx (r.1.set i (.ll (xss.set m.toNat (xs.set n.toNat r.2))))) else .un else .un
  | .pass, s => .ok (.nx s)
  | .tryT b, s => denSs tb gi b s
  | .bad, _ => .un
def denSs (tb : List Fk) (gi : List (Str × Int)) : Ss → Sls → Oc Res
  | .nil, s => .ok (.nx s)
  | .cons st ss, s => denS tb gi st s >>= fun r => match r with
    | .nx s1 => denSs tb gi ss s1
    | .ret s1 z => .ok (.ret s1 z)
end
end
end Ewl
-- RD3
set_option Elab.async false
set_option linter.all false
set_option maxRecDepth 100000
set_option maxHeartbeats 4000000
/-! Rules that the reader wants. -/
namespace Ewl
open PySem L2
section
variable {X : Cx} {a b c e : Expr} {es : List Expr} {ss : List Stmt} {st : Stmt} {r : Res} {s0 s1 s2 s3 : List Sl} {d d1 d2 d3 z : PyData} {xs ys ws : List PyData} {pos p p2 p3 : Pos} {i j : Nat} {x y : Str}

/-! ### side conditions -/
theorem notStar_ea {env : Env} (h : notStar e = true) : starEach (e :: es) env = (false, eval e env) :: starEach es env := by
  cases e <;> first | rfl | cases h
theorem star_plain {env : Env} {pos : Pos} : ∀ {es : List Expr}, es.all notStar = true → (backTo pos (starEach es env)).any (·.1) = false
  | [], _ => rfl
  | e :: es, h => by
    rw [List.all_cons, Bool.and_eq_true] at h
    rw [notStar_ea h.1]
    have := star_plain (env := env) (pos := pos) h.2
    simp only [backTo, List.map_cons, List.any_cons, Bool.false_or] at this ⊢
    exact this
theorem notSlice_ix (h : notSlice e = true) : PlainIx e := by
  intro o i
  cases e <;> first | rfl | cases h
theorem notSlice_no (h : notSlice e = true) : NoSl e := by
  intro o i
  cases e <;> first | rfl | cases h
theorem notSet_fold {env : Env} (h : notSet e = true) : ∀ x, foldedSetIterable e env x = pure x := by
  intro x
  cases e <;> first | rfl | cases h
theorem notSet_in {op : CmpOp} (h : notSet e = true) : behindInMarks op e = false := by
  cases e <;> first | rfl | cases h
theorem notSet_last {o1 o2 : CmpOp} {b : Expr} (h : notSet e = true) : lastMarks [o1, o2] [b, e] = false := by
  show lastMarks [o2] [e] = false
  exact notSet_in h
theorem notComp_sw {tg : Option Expr} {l : Nat} {env : Env} (h : notComp e = true) : swapsWith e tg l env = pure false := by
  cases e <;> first | rfl | cases h
theorem notTup_sw {tg : Expr} {env : Env} (h : notTup e = true) : swappedStores [tg] e env = pure none := by
  cases tg <;> first | rfl | (cases e <;> first | rfl | cases h)
theorem plainT_is {env : Env} (h : plainT e = true) : ∀ whole, isTrue e env whole = (do let v ← whole; standAt e.pos; holding [v] (truthy v)) := by
  intro whole
  cases e
  case UnaryOp op v p => cases op <;> first | rfl | cases h
  all_goals first | rfl | cases h
theorem notStar_ae {env : Env} (h : notStar e = true) : assignEach (e :: es) env = (false, assign e env) :: assignEach es env := by
  cases e <;> first | rfl | cases h
theorem vis_of {sc : Scope} (h : visB sc x = true) : Vis sc x := by
  unfold visB at h
  rw [Bool.or_eq_true, Bool.or_eq_true] at h
  rcases h with h | h | h
  · exact .inl (eq_of_beq h)
  · exact .inr (.inl (eq_of_beq h))
  · exact .inr (.inr (eq_of_beq h))
theorem odd_of (h : (!oddB x) = true) : (x == ("__debug__" : Str)) = false ∧ (x == ("__classdict__" : Str)) = false ∧ x ≠ "__name__" := by
  unfold oddB at h
  simp only [Bool.not_eq_true', Bool.or_eq_false_iff] at h
  exact ⟨h.1.1, h.1.2, fun e => by rw [e] at h; exact absurd h.2 (by decide +kernel)⟩

/-! ### chains, places, pairs -/
theorem ev_chainF {op op' : CmpOp} {r r' : R2} (ho : OpR X (compareOp op) r) (ho' : OpR X (compareOp op') r') (ha : Ev X a s0 s1 d1) (hb : Ev X b s1 s2 d2) (h1 : RD X.K r d1 d2 (.bool false))
    (hm : lastMarks [op, op'] [b, c] = false) : Ev X (.Compare a [op, op'] [b, c] pos) s0 s2 (.bool false) := .mk fun E Q q =>
  W.of (pe_chain ho ho' pe_W pe_W pe_W hm) (ha E _ fun v G1 H1 E1 g1 r1 => hb E1 _ fun w G2 H2 E2 g2 r2 => h1 E2.s (dp_mono g2 d1 r1) r2 _ fun u G3 H3 g3 r3 => ⟨false, dp_bl r3, q _ G3 H3 (E2.grow g3) ((g1.trans g2).trans g3.g) (.bl false)⟩)
theorem ev_chainT {op op' : CmpOp} {r r' : R2} {k2 : Bool} (ho : OpR X (compareOp op) r) (ho' : OpR X (compareOp op') r') (ha : Ev X a s0 s1 d1) (hb : Ev X b s1 s2 d2) (h1 : RD X.K r d1 d2 (.bool true)) (hc : Ev X c s2 s3 d3) (h2 : RD X.K r' d2 d3 (.bool k2))
    (hm : lastMarks [op, op'] [b, c] = false) : Ev X (.Compare a [op, op'] [b, c] pos) s0 s3 (.bool k2) := .mk fun E Q q =>
  W.of (pe_chain ho ho' pe_W pe_W pe_W hm) (ha E _ fun v G1 H1 E1 g1 r1 => hb E1 _ fun w G2 H2 E2 g2 r2 => h1 E2.s (dp_mono g2 d1 r1) r2 _ fun u G3 H3 g3 r3 => ⟨true, dp_bl r3, by
    show W X c _ H3 _
    exact hc (E2.grow g3) _ fun v' G4 H4 E4 g4 r4 => h2 E4.s (dp_mono (g3.g.trans g4) d2 r2) r4 Q fun u5 G5 H5 g5 r5 => q u5 G5 H5 (E4.grow g5) ((((g1.trans g2).trans g3.g).trans g4).trans g5.g) r5⟩)
theorem et_chainF {op op' : CmpOp} {r r' : R2} (ho : OpR X (compareOp op) r) (ho' : OpR X (compareOp op') r') (ha : Ev X a s0 s1 d1) (hb : Ev X b s1 s2 d2) (h1 : RD X.K r d1 d2 (.bool false))
    (hm : lastMarks [op, op'] [b, c] = false) : EvT X (.Compare a [op, op'] [b, c] pos) s0 s2 false := .mk fun E Q q =>
  WT.of (pt_chain ho ho' pe_W pe_W pe_W hm) (ha E _ fun v G1 H1 E1 g1 r1 => hb E1 _ fun w G2 H2 E2 g2 r2 => h1 E2.s (dp_mono g2 d1 r1) r2 _ fun u G3 H3 g3 r3 => ⟨false, dp_bl r3, ⟨false, rfl, q G3 H3 (E2.grow g3) ((g1.trans g2).trans g3.g)⟩⟩)
theorem et_chainT {op op' : CmpOp} {r r' : R2} {k2 : Bool} (ho : OpR X (compareOp op) r) (ho' : OpR X (compareOp op') r') (ha : Ev X a s0 s1 d1) (hb : Ev X b s1 s2 d2) (h1 : RD X.K r d1 d2 (.bool true)) (hc : Ev X c s2 s3 d3) (h2 : RD X.K r' d2 d3 (.bool k2))
    (hm : lastMarks [op, op'] [b, c] = false) : EvT X (.Compare a [op, op'] [b, c] pos) s0 s3 k2 := .mk fun E Q q =>
  WT.of (pt_chain ho ho' pe_W pe_W pe_W hm) (ha E _ fun v G1 H1 E1 g1 r1 => hb E1 _ fun w G2 H2 E2 g2 r2 => h1 E2.s (dp_mono g2 d1 r1) r2 _ fun u G3 H3 g3 r3 => ⟨true, dp_bl r3, by
    show W X c _ H3 _
    exact hc (E2.grow g3) _ fun v' G4 H4 E4 g4 r4 => h2 E4.s (dp_mono (g3.g.trans g4) d2 r2) r4 _ fun u5 G5 H5 g5 r5 => ⟨k2, dp_bl r5, q G5 H5 (E4.grow g5) ((((g1.trans g2).trans g3.g).trans g4).trans g5.g)⟩⟩)
/-- x[b], x a list of one's own -/
theorem ev_ixV {k : Int} (hN : X.N[i]? = some x) (h0 : s0[i]? = some (.l xs)) (hb : Ev X b s0 s1 (.int k)) (h1 : s1[i]? = some (.l ys)) (hk : atI ys k = some d) (hv : Vis X.env.scope x) (hd : (x == ("__debug__" : Str)) = false) (hcd : (x == ("__classdict__" : Str)) = false) (hs : PlainIx b) :
    Ev X (.Subscript (.Name x p) b pos) s0 s1 d := .mk fun {G₀ H₀ G H σ} E Q q => by
  obtain ⟨l, vs0, hσ, _⟩ := E.getL h0
  refine W.of (pe_ix ix_list (pe_var hN hv hd hcd) pe_W hs) ⟨_, hσ, ?_⟩
  refine hb E _ fun v G1 H1 E1 g1 r1 => ?_
  cases r1
  obtain ⟨l', vs, hσ', gn, _, hl', r⟩ := E1.getL h1
  rw [hσ] at hσ'
  cases hσ'
  obtain ⟨v, ev, rv⟩ := atI_dp r hk
  exact ⟨l, vs, k, v, rfl, rfl, SqL.of hl', ev, q v G1 H1 E1 g1 rv⟩
theorem ev_dgV {o o' : Option Addr} {kvs kvs' : List (Key × PyData)} {k : Key} (hN : X.N[i]? = some x) (h0 : s0[i]? = some (.dk o kvs)) (hb : Ev X b s0 s1 (kyD k)) (h1 : s1[i]? = some (.dk o' kvs')) (hk : valD kvs' k = some d) (hu : X.A.units + 1 < cLine) (hv : Vis X.env.scope x)
    (hd : (x == ("__debug__" : Str)) = false) (hcd : (x == ("__classdict__" : Str)) = false) (hs : NoSl b) : Ev X (.Subscript (.Name x p) b pos) s0 s1 d := .mk fun {G₀ H₀ G H σ} E Q q => by
  obtain ⟨l, ps0, hσ, _⟩ := E.getK h0
  refine W.of (pe_dget hu (pe_var hN hv hd hcd) pe_W hs) ⟨_, hσ, hb E _ fun w G2 H2 E2 g2 r2 => ?_⟩
  obtain ⟨l', ps, hσ', _, gn, _, hl, rk⟩ := E2.getK h1
  rw [hσ] at hσ'
  cases hσ'
  cases dd_key r2
  obtain ⟨v, ev, rv⟩ := (kd_val rk).1 d hk
  exact ⟨l, v, rfl, by rw [← ev]; exact dget_k (.inl hl), q v G2 H2 E2 g2 rv⟩
theorem ev_dgVT {kvs kvs' : List (List Key × PyData)} {k : List Key} (hN : X.N[i]? = some x) (h0 : s0[i]? = some (.dt kvs)) (hb : Ev X b s0 s1 (.tuple (k.map kyD))) (h1 : s1[i]? = some (.dt kvs')) (hk : valD kvs' k = some d) (hu : X.A.units + 1 < cLine) (hv : Vis X.env.scope x)
    (hd : (x == ("__debug__" : Str)) = false) (hcd : (x == ("__classdict__" : Str)) = false) (hs : NoSl b) : Ev X (.Subscript (.Name x p) b pos) s0 s1 d := .mk fun {G₀ H₀ G H σ} E Q q => by
  obtain ⟨l, ps0, hσ, _⟩ := E.getT h0
  refine W.of (pe_dget hu (pe_var hN hv hd hcd) pe_W hs) ⟨_, hσ, hb E _ fun w G2 H2 E2 g2 r2 => ?_⟩
  obtain ⟨l', ps, hσ', gn, _, hl, rk⟩ := E2.getT h1
  rw [hσ] at hσ'
  cases hσ'
  obtain ⟨b', rfl, hb'⟩ := dd_tkey r2
  obtain ⟨v, ev, rv⟩ := (kd_val rk).1 d hk
  exact ⟨l, v, rfl, by rw [← ev]; exact dget_t (.inl hl) (E2.s _ _ hb'), q v G2 H2 E2 g2 rv⟩
/-- k in x, x a dict of one's own -/
theorem ec_inV {ne : Bool} {o : Option Addr} {kvs : List (Key × PyData)} {k : Key} (hN : X.N[i]? = some x) (he : Ev X e s0 s1 (kyD k)) (h1 : s1[i]? = some (.dk o kvs)) (hu : X.A.units + 1 < cLine) (hv : Vis X.env.scope x)
    (hd : (x == ("__debug__" : Str)) = false) (hcd : (x == ("__classdict__" : Str)) = false) : Ev X (.Compare e [if ne = true then .NotIn else .In] [.Name x p] pos) s0 s1 (.bool (negIf ne (valD kvs k).isSome)) ∧ EvT X (.Compare e [if ne = true then .NotIn else .In] [.Name x p] pos) s0 s1 (negIf ne (valD kvs k).isSome) := by
  cases ne with
  | true =>
    refine ⟨.mk fun {G₀ H₀ G H σ} E Q q => W.of (pe_cmp (pc_dnotin hu pe_W (pe_var hN hv hd hcd)) rfl) (he E _ fun v G1 H1 E1 g1 r1 => ?_), .mk fun {G₀ H₀ G H σ} E Q q => WT.of (pt_cmp (pc_dnotin hu pe_W (pe_var hN hv hd hcd)) rfl) (he E _ fun v G1 H1 E1 g1 r1 => ?_)⟩
    · obtain ⟨l, ps, hσ, _, gn, _, hl, r⟩ := E1.getK h1
      cases dd_key r1
      exact ⟨_, hσ, l, _, rfl, dget_k (.inl hl), by rw [(kd_val r).2]; exact q _ G1 H1 E1 g1 (.bl _)⟩
    · obtain ⟨l, ps, hσ, _, gn, _, hl, r⟩ := E1.getK h1
      cases dd_key r1
      exact ⟨_, hσ, l, _, rfl, dget_k (.inl hl), _, rfl, by rw [(kd_val r).2]; exact q G1 H1 E1 g1⟩
  | false =>
    refine ⟨.mk fun {G₀ H₀ G H σ} E Q q => W.of (pe_cmp (pc_din hu pe_W (pe_var hN hv hd hcd)) rfl) (he E _ fun v G1 H1 E1 g1 r1 => ?_), .mk fun {G₀ H₀ G H σ} E Q q => WT.of (pt_cmp (pc_din hu pe_W (pe_var hN hv hd hcd)) rfl) (he E _ fun v G1 H1 E1 g1 r1 => ?_)⟩
    · obtain ⟨l, ps, hσ, _, gn, _, hl, r⟩ := E1.getK h1
      cases dd_key r1
      exact ⟨_, hσ, l, _, rfl, dget_k (.inl hl), by rw [(kd_val r).2]; exact q _ G1 H1 E1 g1 (.bl _)⟩
    · obtain ⟨l, ps, hσ, _, gn, _, hl, r⟩ := E1.getK h1
      cases dd_key r1
      exact ⟨_, hσ, l, _, rfl, dget_k (.inl hl), _, rfl, by rw [(kd_val r).2]; exact q G1 H1 E1 g1⟩
theorem ec_inVT {ne : Bool} {kvs : List (List Key × PyData)} {k : List Key} (hN : X.N[i]? = some x) (he : Ev X e s0 s1 (.tuple (k.map kyD))) (h1 : s1[i]? = some (.dt kvs)) (hu : X.A.units + 1 < cLine) (hv : Vis X.env.scope x)
    (hd : (x == ("__debug__" : Str)) = false) (hcd : (x == ("__classdict__" : Str)) = false) : Ev X (.Compare e [if ne = true then .NotIn else .In] [.Name x p] pos) s0 s1 (.bool (negIf ne (valD kvs k).isSome)) ∧ EvT X (.Compare e [if ne = true then .NotIn else .In] [.Name x p] pos) s0 s1 (negIf ne (valD kvs k).isSome) := by
  cases ne with
  | true =>
    refine ⟨.mk fun {G₀ H₀ G H σ} E Q q => W.of (pe_cmp (pc_dnotin hu pe_W (pe_var hN hv hd hcd)) rfl) (he E _ fun v G1 H1 E1 g1 r1 => ?_), .mk fun {G₀ H₀ G H σ} E Q q => WT.of (pt_cmp (pc_dnotin hu pe_W (pe_var hN hv hd hcd)) rfl) (he E _ fun v G1 H1 E1 g1 r1 => ?_)⟩
    · obtain ⟨l, ps, hσ, gn, _, hl, r⟩ := E1.getT h1
      obtain ⟨b', rfl, hb'⟩ := dd_tkey r1
      exact ⟨_, hσ, l, _, rfl, dget_t (.inl hl) (E1.s _ _ hb'), by rw [(kd_val r).2]; exact q _ G1 H1 E1 g1 (.bl _)⟩
    · obtain ⟨l, ps, hσ, gn, _, hl, r⟩ := E1.getT h1
      obtain ⟨b', rfl, hb'⟩ := dd_tkey r1
      exact ⟨_, hσ, l, _, rfl, dget_t (.inl hl) (E1.s _ _ hb'), _, rfl, by rw [(kd_val r).2]; exact q G1 H1 E1 g1⟩
  | false =>
    refine ⟨.mk fun {G₀ H₀ G H σ} E Q q => W.of (pe_cmp (pc_din hu pe_W (pe_var hN hv hd hcd)) rfl) (he E _ fun v G1 H1 E1 g1 r1 => ?_), .mk fun {G₀ H₀ G H σ} E Q q => WT.of (pt_cmp (pc_din hu pe_W (pe_var hN hv hd hcd)) rfl) (he E _ fun v G1 H1 E1 g1 r1 => ?_)⟩
    · obtain ⟨l, ps, hσ, gn, _, hl, r⟩ := E1.getT h1
      obtain ⟨b', rfl, hb'⟩ := dd_tkey r1
      exact ⟨_, hσ, l, _, rfl, dget_t (.inl hl) (E1.s _ _ hb'), by rw [(kd_val r).2]; exact q _ G1 H1 E1 g1 (.bl _)⟩
    · obtain ⟨l, ps, hσ, gn, _, hl, r⟩ := E1.getT h1
      obtain ⟨b', rfl, hb'⟩ := dd_tkey r1
      exact ⟨_, hσ, l, _, rfl, dget_t (.inl hl) (E1.s _ _ hb'), _, rfl, by rw [(kd_val r).2]; exact q G1 H1 E1 g1⟩
/-- k in d, d data -/
theorem ec_in {ne : Bool} {kvs : List (Key × PyData)} {k : Key} (ha : Ev X a s0 s1 (kyD k)) (hb : Ev X b s1 s2 (dKd kvs)) (hu : X.A.units + 1 < cLine) (hm : ∀ op, behindInMarks op b = false) :
    Ev X (.Compare a [if ne = true then .NotIn else .In] [b] pos) s0 s2 (.bool (negIf ne (valD kvs k).isSome)) ∧ EvT X (.Compare a [if ne = true then .NotIn else .In] [b] pos) s0 s2 (negIf ne (valD kvs k).isSome) := by
  cases ne with
  | true =>
    refine ⟨.mk fun E Q q => W.of (pe_cmp (pc_dnotin hu pe_W pe_W) (hm _)) (ha E _ fun v G1 H1 E1 g1 r1 => hb E1 _ fun w G2 H2 E2 g2 r2 => ?_), et_dnotin ha hb hu (hm _)⟩
    obtain ⟨c, o, ps, rfl, hc, rk⟩ := dd_ofK r2
    cases dd_key r1
    exact ⟨c, _, rfl, dget_k (.inr ⟨o, E2.s _ _ hc⟩), by rw [(kd_val rk).2]; exact q _ G2 H2 E2 (g1.trans g2) (.bl _)⟩
  | false =>
    refine ⟨.mk fun E Q q => W.of (pe_cmp (pc_din hu pe_W pe_W) (hm _)) (ha E _ fun v G1 H1 E1 g1 r1 => hb E1 _ fun w G2 H2 E2 g2 r2 => ?_), et_din ha hb hu (hm _)⟩
    obtain ⟨c, o, ps, rfl, hc, rk⟩ := dd_ofK r2
    cases dd_key r1
    exact ⟨c, _, rfl, dget_k (.inr ⟨o, E2.s _ _ hc⟩), by rw [(kd_val rk).2]; exact q _ G2 H2 E2 (g1.trans g2) (.bl _)⟩
theorem ec_inT {ne : Bool} {kvs : List (List Key × PyData)} {k : List Key} (ha : Ev X a s0 s1 (.tuple (k.map kyD))) (hb : Ev X b s1 s2 (dTd kvs)) (hu : X.A.units + 1 < cLine) (hm : ∀ op, behindInMarks op b = false) :
    Ev X (.Compare a [if ne = true then .NotIn else .In] [b] pos) s0 s2 (.bool (negIf ne (valD kvs k).isSome)) ∧ EvT X (.Compare a [if ne = true then .NotIn else .In] [b] pos) s0 s2 (negIf ne (valD kvs k).isSome) := by
  cases ne with
  | true =>
    refine ⟨.mk fun E Q q => W.of (pe_cmp (pc_dnotin hu pe_W pe_W) (hm _)) (ha E _ fun v G1 H1 E1 g1 r1 => hb E1 _ fun w G2 H2 E2 g2 r2 => ?_), et_dnotinT ha hb hu (hm _)⟩
    obtain ⟨c, o, ps, rfl, hc, rk⟩ := dd_ofT r2
    obtain ⟨b', rfl, hb'⟩ := dd_tkey (dp_mono g2 _ r1)
    exact ⟨c, _, rfl, dget_t (.inr ⟨o, E2.s _ _ hc⟩) (E2.s _ _ hb'), by rw [(kd_val rk).2]; exact q _ G2 H2 E2 (g1.trans g2) (.bl _)⟩
  | false =>
    refine ⟨.mk fun E Q q => W.of (pe_cmp (pc_din hu pe_W pe_W) (hm _)) (ha E _ fun v G1 H1 E1 g1 r1 => hb E1 _ fun w G2 H2 E2 g2 r2 => ?_), et_dinT ha hb hu (hm _)⟩
    obtain ⟨c, o, ps, rfl, hc, rk⟩ := dd_ofT r2
    obtain ⟨b', rfl, hb'⟩ := dd_tkey (dp_mono g2 _ r1)
    exact ⟨c, _, rfl, dget_t (.inr ⟨o, E2.s _ _ hc⟩) (E2.s _ _ hb'), by rw [(kd_val rk).2]; exact q _ G2 H2 E2 (g1.trans g2) (.bl _)⟩
theorem ev_frzLL {xss : List (List PyData)} (hi : s0[i]? = some (.ll xss)) (h : Ev X e (s0.set i (.d (.list (xss.map PyData.list)))) s1 d) : Ev X e s0 s1 d := .mk fun E Q q => by
  obtain ⟨G', g, E'⟩ := E.frzLL hi
  exact h E' Q fun v G2 H2 E2 g2 r2 => q v G2 H2 E2 (g.trans g2) r2

/-! ### slices -/
/-- a part of a slice -/
structure EvO (X : Cx) (o : Option Expr) (sl sl' : List Sl) (k : Option Int) : Prop where
  run : ∀ {G₀ H₀ G H : Hp} {σ : L2.St}, En X.K G₀ H₀ G H σ sl → ∃ t : TO, PO X o t ∧ ∀ Q : Option Int → Hp → Prop, (∀ G' H', En X.K G₀ H₀ G' H' σ sl' → Ex G G' → Q k H') → t σ H Q
theorem eo_no : EvO X none s0 s0 none := .mk fun {G₀ H₀ G H σ} E => ⟨_, po_none, fun Q q => q G H E (Ex.refl G)⟩
theorem eo_so {k : Int} (h : Ev X e s0 s1 (.int k)) : EvO X (some e) s0 s1 (some k) := .mk fun {G₀ H₀ G H σ} E => ⟨_, po_some pe_W, fun Q q => h E _ fun v G' H' E' g r => ⟨k, dp_int r, q G' H' E' g⟩⟩
def WO (X : Cx) (o : Option Expr) : TO := fun σ H Q => ∀ pins s, L2.Inv X pins σ H s → wpAny (model X.prog X.w) X.A (evalPart o X.env) (fun v s' => ∃ k H', L2.Inv X pins σ H' s' ∧ IsPart v k ∧ Q k H') X.xe s
end
end Ewl
-- RD4
set_option Elab.async false
set_option linter.all false
set_option maxRecDepth 100000
set_option maxHeartbeats 4000000
namespace Ewl
open PySem L2
section
variable {X : Cx} {a b c e : Expr} {es : List Expr} {ss : List Stmt} {st : Stmt} {r : Res} {s0 s1 s2 s3 : List Sl} {d d1 d2 d3 z : PyData} {xs ys ws : List PyData} {pos p p2 p3 : Pos} {i j : Nat} {x y : Str}
def rCatS (K : PySem.W.Frag) : R2 := fun x y H Q => ∃ l b xs zs, x = .ref l ∧ y = .ref b ∧ SqL K H l xs ∧ SqL K H b zs ∧ xs.length + zs.length ≤ sizeLine ∧ ∀ p, H p = none → Q (.ref p) (upd H p (.lst (xs ++ zs)))
theorem op_catS : OpR X (binaryOp .Add) (rCatS X.K) := by
  intro pins s σ H x y v u Q I rx ry h
  obtain ⟨l, b, xs, zs, rfl, rfl, hH, hB, hz, q⟩ := h
  cases rx
  cases ry
  obtain ⟨its, r, ⟨o, n, ho, hc, hd, hs⟩, z⟩ := I.list hH
  obtain ⟨its2, r2, ⟨o2, n2, ho2, hc2, hd2, hs2⟩, z2⟩ := I.list hB
  obtain ⟨c, dd, da, sl⟩ := o
  obtain ⟨c2, dd2, da2, sl2⟩ := o2
  simp only at hc hd hs hc2 hd2 hs2
  subst hc hd hs hc2 hd2 hs2
  have ea : its.toArray ++ its2.toArray = (its ++ its2).toArray := by simp
  refine concat_meets ⟨_, ho, rfl⟩ ⟨_, ho2, rfl⟩ noFill_list_add seq_list_add PySem.F.slot_list_add PySem.F.entry_list_add (PySem.F.args_list_add_2 _ _) (PyProof.Rows.list_addW l b its.toArray its2.toArray n n2 none none sl sl2 (by rw [List.size_toArray, List.size_toArray, ← r.length, ← r2.length]; exact hz)) ⟨ho, ho2, ?_⟩
  rw [ea]
  exact ⟨.ref _, _, I.lnew (t' := s.toks) (r.append r2) (by rw [List.length_append]; exact hz), rfl, q _ I.fresh⟩
theorem po_W {o : Option Expr} : PO X o (WO X o) := ⟨fun pins s σ H Q I h => h pins s I⟩
theorem EvO.wo {o : Option Expr} {k : Option Int} (h : EvO X o s0 s1 k) {G₀ H₀ G H : Hp} {σ : L2.St} (E : En X.K G₀ H₀ G H σ s0) (Q : Option Int → Hp → Prop) (q : ∀ G' H', En X.K G₀ H₀ G' H' σ s1 → Ex G G' → Q k H') : WO X o σ H Q := by
  obtain ⟨t, hp, ht⟩ := h.run E
  exact fun pins s I => hp.run pins s σ H Q I (ht Q q)
/-- xs[lo:hi], a new list -/
theorem el_slice {lo hi : Option Expr} {l h : Option Int} (ha : Ev X a s0 s1 (.list xs)) (hl : EvO X lo s1 s2 l) (hh : EvO X hi s2 s3 h) : EvL X (.Subscript a (.Slice lo hi none p2) pos) s0 s3 (sliceD xs l h) := .mk fun E Q q =>
  W.of (pe_slice sl_list pe_W po_W po_W) (ha E _ fun v G1 H1 E1 g1 r1 => hl.wo E1 _ fun G2 H2 E2 g2 => hh.wo E2 _ fun G3 H3 E3 g3 => by
    cases dp_mono (g2.trans g3) _ r1 with
    | lst s r => exact ⟨_, _, rfl, ex_l E3.s s, fun p hp => q p _ G3 H3 E3 ((g1.trans g2).trans g3) hp (cut_dd r _ _)⟩)
theorem ev_slT {lo hi : Option Expr} {l h : Option Int} (ha : Ev X a s0 s1 (.tuple xs)) (hl : EvO X lo s1 s2 l) (hh : EvO X hi s2 s3 h) : Ev X (.Subscript a (.Slice lo hi none p2) pos) s0 s3 (.tuple (sliceD xs l h)) := .mk fun E Q q =>
  W.of (pe_slice sl_tupA pe_W po_W po_W) (ha E _ fun v G1 H1 E1 g1 r1 => hl.wo E1 _ fun G2 H2 E2 g2 => hh.wo E2 _ fun G3 H3 E3 g3 => by
    have hd := dp_mono (g2.trans g3) _ r1
    cases hd with
    | tup s r =>
      rename_i aa vs
      have hl := dpAll_len r
      refine ⟨_, vs, rfl, SqT.of (E3.s _ _ s), fun hw => ?_, fun hw p hp => ?_⟩
      · refine q _ G3 H3 E3 ((g1.trans g2).trans g3) ?_
        have e : sliceD xs l h = xs := by
          unfold sliceD
          rw [← hl, hw.1, hw.2, List.drop_zero, Nat.sub_zero, List.take_of_length_le (by omega)]
        rw [e]
        exact .tup s r
      · have gw := Gw.new (o := .tup (cutV vs l h)) E3.s hp
        exact q _ _ _ (E3.grow gw) (((g1.trans g2).trans g3).trans gw.g) (.tup upd_same (dpAll_mono gw.g _ (cut_dd r _ _))))
/-- xs + ys, of data, a new list -/
theorem el_catD (ha : Ev X a s0 s1 (.list xs)) (hb : Ev X b s1 s2 (.list ys)) (hl : xs.length + ys.length ≤ 100000) : EvL X (.BinOp a .Add b pos) s0 s2 (xs ++ ys) := .mk fun {G₀ H₀ G H σ} E Q q =>
  W.of (pe_op op_catS pe_W pe_W) (ha E _ fun v G1 H1 E1 g1 r1 => hb E1 _ fun w G2 H2 E2 g2 r2 => by
    cases dp_mono g2 _ r1 with
    | lst s1' r1' =>
      cases r2 with
      | lst s2' r2' =>
        refine ⟨_, _, _, _, rfl, rfl, ex_l E2.s s1', ex_l E2.s s2', ?_, fun p hp => ?_⟩
        · rw [dpAll_len r1', dpAll_len r2']; exact Nat.le_trans hl (by decide)
        · exact q p _ G2 H2 E2 (g1.trans g2) hp (dpAll_app r1' r2'))
theorem ei_rng2 {i j : Int} (ha : EvA X [a, b] s0 s1 [.int i, .int j]) (hm : X.mg "range" = none) (hi : -(2 ^ 62) ≤ i ∧ i < 2 ^ 62) (hj : -(2 ^ 62) ≤ j ∧ j < 2 ^ 62) (hg : Gl X "range") (hs : starEach [a, b] X.env = [(false, eval a X.env), (false, eval b X.env)]) (hs2 : starEach [b] X.env = [(false, eval b X.env)]) {tg : Expr} : EvI X tg (.Call (.Name "range" p) [a, b] [] pos) s0 s1 (rngD i (j - i).toNat) := .mk fun E R q =>
  WI.of (pi_range2 hg hm pa_W hs hs2) (ha E _ fun vs G' H' E' g r => by
    cases r with
    | cons r1 r2 =>
      cases r2 with
      | cons r2 r3 =>
        cases r3; cases r1; cases r2
        exact ⟨i, j, rfl, ⟨hi.1, hi.2, hj.1, hj.2⟩, q _ G' H' E' g yl_rng⟩)
theorem ev_tyNe {x : Str} (h : Ev X e s0 s1 d) (hm : X.mg "type" = none) (hmT : X.mg x = none) (hv : bootBuiltins x = some (.type (tyD d))) (hg : Gl X "type") (hgT : Gl X x) (hn : x ≠ "__name__") (hdb : (x == ("__debug__" : Str)) = false)
    (he : starEach [e] X.env = (false, eval e X.env) :: starEach [] X.env) : Ev X (.Compare (.Call (.Name "type" p) [e] [] p2) [.NotEq] [.Name x p3] pos) s0 s1 (.bool false) := .mk fun E Q q =>
  W.of (pe_cmpR op_tyNeS (pe_callTy call_tyD hg hm (by decide +kernel) (pa_cons pe_W pa_nil he) (by decide) (by decide) he rfl) (pe_bltn (v := .ty (tyD d)) hgT hmT hv rfl hn hdb) (nomark _))
    (h E _ fun v G' H' E' g r => ⟨v, d, rfl, dp_mono E'.s d r, tyD d, rfl, rfl, ty_in d, q _ G' H' E' g (.bl _)⟩)

/-! ### stores into what is one's own -/
theorem bm_app {v : Expr} (hs : notStar v = true) (hl : (p2.endLine == p3.line) = true) {te : TE} (h : PE X (.Name x p) te) : PE X (.Call (.Attribute (.Name x p) "append" p2) [v] [] p3) (tBM X.K "list" rAppend te (WA X [v])) := by
  have e := notStar_ea (env := X.env) (es := []) hs
  exact pe_bm PySem.F.plainAttrs_list PySem.F.slot_list_append PySem.F.type_list_append mt_append h pa_W rfl (by rw [e]; rfl) hl e rfl
theorem bm_pop {v : Expr} (hs : notStar v = true) (hl : (p2.endLine == p3.line) = true) {te : TE} (h : PE X (.Name x p) te) : PE X (.Call (.Attribute (.Name x p) "pop" p2) [v] [] p3) (tBM X.K "list" rPopAt te (WA X [v])) := by
  have e := notStar_ea (env := X.env) (es := []) hs
  exact pe_bm PySem.F.plainAttrs_list PySem.F.slot_list_pop PySem.F.type_list_pop mt_popAt h pa_W rfl (by rw [e]; rfl) hl e rfl
theorem st_appV (hN : X.N[i]? = some x) (h0 : s0[i]? = some (.l xs)) (hb : Ev X b s0 s1 d) (h1 : s1[i]? = some (.l ys)) (hl : ys.length ≤ 100000) (hv : Vis X.env.scope x) (hd : (x == ("__debug__" : Str)) = false) (hcd : (x == ("__classdict__" : Str)) = false)
    (hst : notStar b = true) (hln : (p2.endLine == p3.line) = true) : St1 X (.Expr (.Call (.Attribute (.Name x p) "append" p2) [b] [] p3) pos) s0 (.nx (s1.set i (.l (ys ++ [d])))) := .mk fun {G₀ H₀ G H σ} E D k => by
  obtain ⟨l, vs0, hσ, _, _, hl0, _⟩ := E.getL h0
  refine WS.of (ps_expr (bm_app hst hln (pe_var hN hv hd hcd)) rfl) ⟨_, hσ, .inl ⟨rfl, _, SqL.of hl0⟩, ?_⟩
  refine (ea_cons hb ea_nil (notStar_ea hst)) E _ fun us G1 H1 E1 g1 r1 => ?_
  cases r1 with
  | cons r1 rr =>
    cases rr
    obtain ⟨l', vs, hσ', gn, _, hl', r⟩ := E1.getL h1
    rw [hσ] at hσ'
    cases hσ'
    refine ⟨l, vs, _, rfl, rfl, hl', ?_, ?_⟩
    · rw [dpAll_len r]; exact Nat.lt_of_le_of_lt hl (by decide)
    · exact k σ G1 _ (E1.putL h1 hσ (dpAll_app r (dpAll_one r1))) g1
theorem st_popV {k : Int} {p4 : Pos} (hN : X.N[i]? = some x) (h0 : s0[i]? = some (.l xs)) (hb : Ev X b s0 s1 (.int k)) (h1 : s1[i]? = some (.l ys)) (hk : 0 ≤ k) (hz : ys.length ≤ 100000) (hd1 : ys[k.toNat]? = some d) (hj : X.N[j]? = some y) (hlj : j < s1.length) (hND : X.N.Nodup)
    (hy : Loc X.env.scope y) (hv : Vis X.env.scope x) (hd : (x == ("__debug__" : Str)) = false) (hcd : (x == ("__classdict__" : Str)) = false)
    (hst : notStar b = true) (hln : (p2.endLine == p3.line) = true) (hf : X.fn y = true ∨ X.env.scope.names.lookup y = some .local) : St1 X (.Assign [.Name y p4] (.Call (.Attribute (.Name x p) "pop" p2) [b] [] p3) pos) s0 (.nx ((s1.set i (.l (ys.eraseIdx k.toNat))).set j (.d d))) := .mk fun {G₀ H₀ G H σ} E D kk => by
  obtain ⟨l, vs0, hσ, _, _, hl0, _⟩ := E.getL h0
  refine WS.of (ps_set hND hj hy (bm_pop hst hln (pe_var hN hv hd hcd)) rfl hf) ⟨_, hσ, .inl ⟨rfl, _, SqL.of hl0⟩, ?_⟩
  refine (ea_cons hb ea_nil (notStar_ea hst)) E _ fun us G1 H1 E1 g1 r1 => ?_
  cases r1 with
  | cons r1 rr =>
    cases rr
    cases r1
    obtain ⟨l', vs, hσ', gn, _, hl', r⟩ := E1.getL h1
    rw [hσ] at hσ'
    cases hσ'
    have hlen := dpAll_len r
    obtain ⟨v, ev, rv⟩ := dpAll_get r hd1
    have hn2 : k.toNat < ys.length := (List.getElem?_eq_some_iff.mp hd1).1
    refine ⟨l, vs, k, k.toNat, v, rfl, rfl, hl', by omega, by omega, ?_, ev, ?_⟩
    · have e1 : ¬ k < 0 := by omega
      have e3 : k.toNat < vs.length := by omega
      simp [seqIndex?, e1, e3]
      try omega
    · have E2 := E1.putL h1 hσ (dpAll_erase k.toNat r)
      exact kk _ G1 _ (E2.setD (by rw [List.length_set]; exact hlj) rv) g1
theorem st_putK {o : Option Addr} {kvs : List (Key × PyData)} {k : Str} {j' : Nat} (hN : X.N[i]? = some x) (he : Ev X e s0 s1 d) (h1 : s1[i]? = some (.dk o kvs)) (hz : kvs.length ≤ 1000) (hu : X.A.units + 1 < cLine) (hv : Vis X.env.scope x) (hd : (x == ("__debug__" : Str)) = false) (hcd : (x == ("__classdict__" : Str)) = false)
    (hs : notComp e = true) : St1 X (.Assign [.Subscript (.Name x p) (.Constant (.str k) j' p2) p3] e pos) s0 (.nx (s1.set i (.dk o (putD kvs (Sum.inr k) d)))) := st_dputK hN he h1 hz hu hv hd hcd (notComp_sw hs)
theorem st_putT {kvs kvs' : List (List Key × PyData)} {ks : List Key} (hN : X.N[i]? = some x) (he : Ev X e s0 s1 d) (hk : Ev X a s1 s2 (.tuple (ks.map kyD))) (h0 : s1[i]? = some (.dt kvs')) (h1 : s2[i]? = some (.dt kvs)) (hz : kvs.length ≤ 1000) (hu : X.A.units + 1 < cLine) (hv : Vis X.env.scope x)
    (hd : (x == ("__debug__" : Str)) = false) (hcd : (x == ("__classdict__" : Str)) = false) (hs : notComp e = true) :
    St1 X (.Assign [.Subscript (.Name x p) a p3] e pos) s0 (.nx (s2.set i (.dt (putD kvs ks d)))) := .mk fun {G₀ H₀ G H σ} E D kk => by
  refine WS.of (ps_dput hu (pe_var hN hv hd hcd) pe_W pe_W (notComp_sw hs)) (he E _ fun v G1 H1 E1 g1 r1 => ?_)
  obtain ⟨l0, ps0, hσ0, _⟩ := E1.getT h0
  refine ⟨_, hσ0, hk E1 _ fun v2 G2 H2 E2 g2 r2 => ?_⟩
  obtain ⟨l, ps, hσ, gn, _, hl, r⟩ := E2.getT h1
  rw [hσ0] at hσ
  cases hσ
  obtain ⟨b, rfl, hb⟩ := dd_tkey r2
  refine ⟨_, _, rfl, DPut.t hl (E2.s _ _ hb) ?_, ?_⟩
  · rw [kd_len r]; exact Nat.lt_of_le_of_lt hz (by decide)
  · exact kk σ G2 _ (E2.putT h1 hσ0 (kd_put (dp_mono g2 d r1) r)) (g1.trans g2)
end
end Ewl
-- RS1
set_option Elab.async false
set_option linter.all false
set_option maxRecDepth 100000
set_option maxHeartbeats 4000000
/-! sorted of a tuple. -/
namespace PySem.W
open PySem PyProof.Rows
section
variable {prog : Program} {w : World} {A : Around} {E : Value → Shared → Prop} {s : Shared}
theorem collect_tupE {l : Addr} {vs : List Value} {Q : List Value → Shared → Prop} (hl : IsTup s.heap l vs.toArray)
    (h : Q vs { s with heap := (s.heap.push (seqObj "list" #[] 0)).update s.heap.objs.size (Obj.mapSeq (· ++ vs.toArray)) }) (hsz : vs.length ≤ sizeLine) :
    wpAny (model prog w) A (collect (.ref l)) Q E s := by
  obtain ⟨o, ho, hc, n, hd⟩ := id hl
  unfold collect
  refine wpAny_bind (wpAny_runValue (codeAny_builtin entry_proto_collect' ?_))
  show wpAny _ _ (do again (.builtin "list.__iadd__" ⟨[← newList [], .ref l], []⟩)) _ _ s
  refine wpAny_bind (wpAny_newList (wpAny_pure ⟨Code.quiet_builtin _ (by decide +kernel), codeAny_builtin entry_list_iadd' ?_⟩))
  show wpAny _ _ (Builtin.List.listExtendWith (.ref s.heap.objs.size) (.ref l) (.ref s.heap.objs.size)) _ _ { s with heap := s.heap.push (seqObj "list" #[] 0) }
  unfold Builtin.List.listExtendWith
  have ho' : (s.heap.push (seqObj "list" #[] 0)).get? l = some o := Heap.get?_push_of_some _ ho
  refine wpAny_bind (wpAny_typeOf (T := "tuple") ⟨o, ho', hc⟩ ?_)
  have ht : (Value.type "tuple" == Value.type "tuple") = true := by rfl
  rw [if_pos (by rw [ht]; simp)]
  refine wpAny_bind (listItems_at ho' hd ?_)
  refine wpAny_bind (listItems_at (xs := #[]) (n := 0) (Heap.get?_push_size _ rfl) rfl ?_)
  rw [if_neg (by simp)]
  refine wpAny_bind (listUpdate_at (xs := #[]) (n := 0) (Heap.get?_push_size _ rfl) rfl ?_ (Nat.zero_le _) (by show (#[] ++ vs.toArray).size ≤ sizeLine + 1; simp only [Array.size_append, List.size_toArray, List.length_nil]; omega))
  refine wpAny_pure ?_
  show wpAny (model prog w) A (do
      let o ← load s.heap.objs.size
      match o.data with
      | .seq xs _ => pure xs.toList
      | _ => unsupported "internal:collect") Q E { s with heap := (s.heap.push (seqObj "list" #[] 0)).update s.heap.objs.size (Obj.mapSeq (· ++ vs.toArray)) }
  refine wpAny_bind (wpAny_load (get?_update_seq (Heap.get?_push_size _ rfl) _) ?_)
  show wpAny _ _ (pure ((#[] : Array Value) ++ vs.toArray).toList) Q E _
  rw [show ((#[] : Array Value) ++ vs.toArray).toList = vs by simp]
  exact wpAny_pure h
theorem sorted_of_sortE {l : Addr} {vs : List Value} {Q : Value → Shared → Prop} (hl : IsTup s.heap l vs.toArray) (hL : vs.length ≤ sizeLine)
    (body : ∀ E' : Value → Shared → Prop, wpAny (model prog w) A.in1.in1 (Builtin.«list.sort» ⟨[.ref (s.heap.objs.size + 1)], []⟩) (fun f s' => f = .done (.ret .none) ∧ Q (.ref (s.heap.objs.size + 1)) s') E' { s with heap := copyHeap s.heap vs }) :
    wpAny (model prog w) A (call (.builtin "sorted") [.ref l]) Q E s := by
  refine call_function_entry_kw kind_sorted plain_sorted entry_sorted (args_sorted1 _) ?_
  unfold Builtin.«sorted»
  refine wpAny_bind (m := checkCount "sorted" 1 1 _) (wpAny_pure ?_)
  refine wpAny_bind (collect_tupE hl ?_ hL)
  refine wpAny_bind (wpAny_newList ?_ hL)
  have hsz : ((s.heap.push (seqObj "list" #[] 0)).update s.heap.objs.size (Obj.mapSeq (· ++ vs.toArray))).objs.size = s.heap.objs.size + 1 := by
    rw [Heap.size_update, size_push']
  show wpAny _ _ _ _ _ { s with heap := copyHeap s.heap vs }
  rw [hsz]
  refine wpAny_bind (wpAny_holding (wpAny_call_entry_kw slot_list_sort ⟨_, copyHeap_at s.heap vs, rfl⟩ entry_list_sort ?body (args_list_sort _)))
  case body =>
    show wpAny (model prog w) A.in1.in1 (Builtin.«list.sort» ⟨[.ref (s.heap.objs.size + 1)], []⟩) _ _ _
    refine wpAny_mono (body _) (fun f s' hf => ?_) fun _ _ e => e
    obtain ⟨rfl, hq⟩ := hf
    exact ⟨_, rfl, wpAny_pure ⟨_, rfl, hq⟩⟩
theorem sorted_dataE {R : Value → PyData → Prop} {vs : List Value} {bs : List PyData} {l : Addr} {Q : Value → Shared → Prop} (hl : IsTup s.heap l vs.toArray) (e : EachIs R vs bs) (er : EachIs (fun v b => ∃ as, Reads s.heap v b as) vs bs) (hal : AllAlike bs) (hk : Sortable bs) (hL : bs.length ≤ sizeLine)
    (hu : ∀ b, b ∈ bs → A.units + 2 + b.depth < cLine) (h : ∀ out, out.length = bs.length → EachIs R out (bs.mergeSort (dataLe false fun d => d)) → Q (.ref (s.heap.objs.size + 1)) { s with heap := sortedAll s.heap vs (List.toArray out) }) :
    wpAny (model prog w) A (call (.builtin "sorted") [.ref l]) Q E s := by
  have er' : EachIs (fun v b => ∃ as, Reads (sortingHeap (copyHeap s.heap vs) (s.heap.objs.size + 1) vs) v b as) vs bs := er.mono fun _ _ ⟨as, r⟩ => ⟨as, PyProof.Rows.Reads.keeps (fun _ _ => sorting_copy_old) r⟩
  have em : bs.map (fun d => d) = bs := List.map_id' bs
  have S := SortsAt.data (prog := prog) (w := w) (A := A.in1.in1) (s := { s with heap := sortingHeap (copyHeap s.heap vs) (s.heap.objs.size + 1) vs }) (each_map (R := fun v d => ∃ as, Reads (sortingHeap (copyHeap s.heap vs) (s.heap.objs.size + 1) vs) v d as) (fun d => d) er') (by rw [em]; exact hal) (by rw [em]; exact hk) (bound_map (enc := fun d => d) hu)
  exact sorted_of_sortE hl (by rw [e.length]; exact hL) fun _ => list_sort_vals (s := { s with heap := copyHeap s.heap vs }) (copyHeap_at s.heap vs) S (by rw [e.length]; exact hL) ⟨rfl, h _ (by rw [sortVals_length false rfl]; exact e.length) (sortVals_data (enc := fun d => d) false e er' (by rw [em]; exact hal))⟩
end
end PySem.W
namespace Ewl
open PySem L2
section
variable {X : Cx}
def rSortedT (K : PySem.W.Frag) : List V → Hp → VK → Prop := fun vs H Q => ∃ (G : Hp) (a : Addr) (xs : List V) (ds : List PyData), Ex G H ∧ vs = [V.ref a] ∧ SqT K H a xs ∧ DdAll K G xs ds ∧ PySem.W.AllAlike ds ∧ PySem.W.Sortable ds ∧ (∀ d ∈ ds, d.depth ≤ 8) ∧
  ∀ (p : Addr) (zs : List V), H p = none → DdAll K G zs (srtD ds) → Q (.ref p) (L2.upd H p (.lst zs))
theorem cr_sortedT (hu : X.A.units + 64 < cLine) : CallR X (.builtin "sorted") (rSortedT X.K) := by
  intro pins s σ H vs us Q I r h
  obtain ⟨G, a, xs, ds, gs, rfl, hs, hd, hal, hk, hz, q⟩ := h
  obtain ⟨its, rv, hl, hL⟩ := I.tuple hs
  rw [Vals.ref1 r]
  have e1 : PySem.W.EachIs (IsV X.K G) its ds := each_of hd rv
  have e2 : PySem.W.EachIs (fun v b => ∃ as, Reads s.heap v b as) its ds := each_mem e1 fun v d m ⟨x, r, h⟩ => ddReads I d x v (noDict_of_alike d (hal d m d m)) (dp_mono gs d h) r
  have hlen : ds.length = xs.length := (dpAll_len hd).symm
  refine PySem.W.sorted_dataE hl e1 e2 hal hk (by rw [hlen]; exact hL) (fun b hb => by have := hz b hb; omega) fun out ho eo => ?_
  obtain ⟨zs, hv, hz2⟩ := of_each eo
  obtain ⟨ep, he'⟩ := PyProof.Rows.sortedAll_at s.heap its out.toArray
  have hlz : zs.length ≤ sizeLine := by rw [hv.length, ho, hlen]; exact hL
  refine ⟨.ref _, L2.upd H (s.heap.objs.size + 1) (.lst zs), I.laid (t' := s.toks) (fun _ _ => PyProof.Rows.sortedAll_old) (Nat.le_succ _) ⟨hlz, out, ep, hv, ?_⟩, rfl, q _ zs (I.hok.fresh (Nat.le_succ _)) hz2⟩
  exact he'
theorem rcl_sortedT {ds : List PyData} (hal : PySem.W.AllAlike ds) (hk : PySem.W.Sortable ds) (hz : ∀ d ∈ ds, d.depth ≤ 8) : RCL X.K (rSortedT X.K) [.tuple ds] (srtD ds) := .mk fun {G H vs} s a Q q => by
  cases a with
  | cons a r =>
    cases r
    cases a with
    | tup sl r => exact ⟨G, _, _, ds, s, rfl, SqT.of (s _ _ sl), r, hal, hk, hz, fun p zs hp h => q p zs hp h⟩
end
end Ewl
-- RD5
set_option Elab.async false
set_option linter.all false
set_option maxRecDepth 100000
set_option maxHeartbeats 4000000
namespace Ewl
open PySem L2
/-! ### what the reader stands on -/
def mthId (x : Str) : String := if x = "gcd" then "math.gcd" else "math.lcm"
def FkOk (X : Cx) (x : Str) : Fk → Prop
  | .dd f => ∃ k, Room k X.A ∧ FnR X.prog X.w X.K X.mg X.base x k (spD X.K fun ds z => f ds = .ok z)
  | .ss f => ∃ k, Room k X.A ∧ FnR X.prog X.w X.K X.mg X.base x k (spS X.K fun kvs ds kvs' z => ∀ p, f p kvs ds = .ok (kvs', z))
  | .kk f => ∃ k, Room k X.A ∧ FnR X.prog X.w X.K X.mg X.base x k (spK X.K fun ds kvs => f ds = .ok kvs)
structure Good (X : Cx) (c : Ck) (tb : List Fk) (is : List (Str × Int)) : Prop where
  N : X.N = c.N
  sc : X.env.scope = c.sc
  nd : X.N.Nodup
  fn : X.fn = c.fnc
  calm : X.calm = true
  pass : PassesOwn (model X.prog X.w) X.A X.env X.xe
  nx : ∀ e s, ¬ X.xe e s
  gd : X.A.guards = some []
  un : X.A.units + 64 < cLine
  blt : ∀ x ∈ c.bs, X.mg x = none
  mth : ∀ x ∈ c.gs, (x = "gcd" ∨ x = "lcm") ∧ X.mg x = some (.builtin (mthId x))
  gi : ∀ (x : Str) (i : Int), is.lookup x = some i → ∃ t, X.mg x = some (.int i t)
  fns : ∀ (k : Nat) (x : Str) (fk : Fk), c.fs[k]? = some x → tb[k]? = some fk → FkOk X x fk
section
variable {X : Cx} {c : Ck} {tb : List Fk} {is : List (Str × Int)}
theorem Good.u1 (g : Good X c tb is) : X.A.units + 1 < cLine := by have := g.un; omega
theorem Good.nm (g : Good X c tb is) {i : Nat} {x : Str} (h : nmB c i x = true) : X.N[i]? = some x ∧ Vis X.env.scope x ∧ (x == ("__debug__" : Str)) = false ∧ (x == ("__classdict__" : Str)) = false := by
  unfold nmB at h
  rw [Bool.and_eq_true, Bool.and_eq_true] at h
  obtain ⟨h1, h2, h3⟩ := h
  have o := odd_of h3
  exact ⟨by rw [g.N]; exact eq_of_beq h1, by rw [g.sc]; exact vis_of h2, o.1, o.2.1⟩
theorem Good.lo (g : Good X c tb is) {i : Nat} {x : Str} (h : loB c i x = true) : X.N[i]? = some x ∧ Loc X.env.scope x ∧ (X.fn x = true ∨ X.env.scope.names.lookup x = some .local) := by
  unfold loB at h
  rw [Bool.and_eq_true, Bool.or_eq_true, Bool.and_eq_true] at h
  obtain ⟨h1, h2⟩ := h
  refine ⟨by rw [g.N]; exact eq_of_beq h1, ?_, ?_⟩
  · rw [g.sc]
    rcases h2 with h | h
    · exact .inl (eq_of_beq h)
    · exact .inr (eq_of_beq h.1)
  · rcases h2 with h | h
    · exact .inr (by rw [g.sc]; exact eq_of_beq h)
    · exact .inl (by rw [g.fn]; exact h.2)
theorem Good.lc1 (g : Good X c tb is) {i : Nat} {x : Str} (h : loc1B c i x = true) : X.N[i]? = some x ∧ X.env.scope.names.lookup x = some .local := by
  unfold loc1B at h
  rw [Bool.and_eq_true] at h
  exact ⟨by rw [g.N]; exact eq_of_beq h.1, by rw [g.sc]; exact eq_of_beq h.2⟩
theorem Good.gl (g : Good X c tb is) {x : Str} (h : glB c.sc x = true) : Gl X x := by
  show X.env.scope.names.lookup x = _
  rw [g.sc]
  exact eq_of_beq h
theorem Good.bl (g : Good X c tb is) {x y : Str} (h : bltB c x y = true) : x = y ∧ Gl X x ∧ X.mg x = none ∧ (x == ("__debug__" : Str)) = false ∧ x ≠ "__name__" := by
  unfold bltB at h
  rw [Bool.and_eq_true, Bool.and_eq_true, Bool.and_eq_true] at h
  obtain ⟨h1, h2, h3, h4⟩ := h
  have o := odd_of h4
  exact ⟨eq_of_beq h1, g.gl h2, g.blt x (List.contains_iff_mem.mp h3), o.1, o.2.2⟩
theorem Good.mt (g : Good X c tb is) {x y : Str} (h : mthB c x y = true) : x = y ∧ Gl X x ∧ (x = "gcd" ∨ x = "lcm") ∧ X.mg x = some (.builtin (mthId x)) ∧ (x == ("__debug__" : Str)) = false := by
  unfold mthB at h
  rw [Bool.and_eq_true, Bool.and_eq_true, Bool.and_eq_true] at h
  obtain ⟨h1, h2, h3, h4⟩ := h
  have o := odd_of h4
  have m := g.mth x (List.contains_iff_mem.mp h3)
  exact ⟨eq_of_beq h1, g.gl h2, m.1, m.2, o.1⟩
theorem rlb_relabel {scope : Scope} {env : Env} {sc : Scope} (h : env.scope = sc) : relabel scope env = rlb scope sc := by
  subst h; rfl
theorem Good.blk (g : Good X c tb is) (scope : Scope) (s : Shared) (H : Hp) (C : Addr) (cl : List (Str × Addr)) (fp : List Addr) : Good (Blk X scope s H C cl fp) (c.in scope) tb is where
  N := g.N
  sc := rlb_relabel g.sc
  nd := g.nd
  fn := rfl
  calm := g.calm
  pass := PassesOwn.never
  nx := fun _ _ z => z
  gd := g.gd
  un := g.un
  blt := g.blt
  mth := g.mth
  gi := g.gi
  fns := fun k x fk h1 h2 => by
    have := g.fns k x fk h1 h2
    cases fk <;> exact this
theorem blkOk_of {N : List Str} {sc scope : Scope} {own : List (Str × Nat)} (h : blkB N sc scope own = true) : BlkOk N sc scope own := by
  unfold blkB at h
  simp only [Bool.and_eq_true] at h
  obtain ⟨h1, h2, h3, h4, h5⟩ := h
  rw [List.all_eq_true] at h2 h3 h4 h5
  refine ⟨eq_of_beq h1, fun y hy => eq_of_beq (h2 y hy), fun p hp => eq_of_beq (h3 p hp), fun y hy e => ?_, fun y hy e => ?_⟩
  · have := h4 y hy
    rw [e] at this
    simp only [beq_self_eq_true, Bool.not_true, Bool.false_or, Bool.or_eq_true] at this
    rcases this with h | h
    · exact .inl (eq_of_beq h)
    · exact .inr (eq_of_beq h)
  · have := h5 y hy
    have ht : (y.2 == NameKind.local || y.2 == NameKind.cell) = true := by rcases e with e | e <;> rw [e] <;> rfl
    rw [ht] at this
    simp only [Bool.not_true, Bool.false_or, Bool.or_eq_true] at this
    rcases this with h | h
    · exact .inl (List.contains_iff_mem.mp h)
    · refine .inr fun z => ?_
      rw [List.contains_iff_mem.mpr z] at h
      cases h

/-! ### operations -/
theorem op_powS : OpR X (binaryOp .Pow) (rI CPow fun i j => .int (i ^ j.toNat)) := op_pow
theorem rd_catT {K : PySem.W.Frag} {xs ys : List PyData} (hl : xs.length + ys.length ≤ 100000) : RD K (rCatA K) (.tuple xs) (.tuple ys) (.tuple (xs ++ ys)) := .mk fun {G H v w} s r1 r2 Q q => by
  cases r1 with
  | tup s1 a1 =>
    cases r2 with
    | tup s2 a2 =>
      rename_i l vs l2 ws
      have e1 := dpAll_len a1
      have e2 := dpAll_len a2
      refine ⟨_, _, vs, ws, rfl, rfl, SqT.of (s _ _ s1), SqT.of (s _ _ s2), by rw [e1, e2]; exact Nat.le_trans hl (by decide), fun hx => ?_, fun hx hy => ?_, fun hx hy p hp => ?_⟩
      · subst hx
        cases a1
        exact q _ G H (.refl s) (.tup s2 a2)
      · subst hy
        cases a2
        exact q _ G H (.refl s) (by rw [List.append_nil]; exact .tup s1 a1)
      · exact q _ _ _ (.new s hp) (.tup upd_same (dpAll_app (dpAll_mono (Ex.new (s.back hp)) _ a1) (dpAll_mono (Ex.new (s.back hp)) _ a2)))
theorem binD_ok {o : Bin} {d e z : PyData} (h : binD o d e = .ok z) : ∃ r, OpR X (binaryOp (binO o)) r ∧ RD X.K r d e z := by
  unfold binD at h
  split at h
  · cases h; exact ⟨_, op_add, rd_int⟩
  · cases h; exact ⟨_, op_sub, rd_int⟩
  · split at h
    · rename_i hc; cases h; exact ⟨_, op_mulW, rd_intC hc⟩
    · cases h
  · split at h
    · rename_i hc; cases h; exact ⟨_, op_fdivW, rd_intC hc⟩
    · cases h
  · split at h
    · rename_i hc; cases h; exact ⟨_, op_mod, rd_intC hc⟩
    · cases h
  · split at h
    · rename_i hc; cases h; exact ⟨_, op_powS, rd_intC ⟨hc.1, by omega, hc.2.2⟩⟩
    · cases h
  · split at h
    · rename_i hc; cases h; exact ⟨_, op_catA, rd_catT hc⟩
    · cases h
  · split at h
    · rename_i hc; cases h; exact ⟨_, op_repTA, rd_repT hc.1 hc.2.1 hc.2.2.1 hc.2.2.2⟩
    · cases h
  · cases h
theorem ordOk_of {d e : PyData} (h : ordOk d e = true) : PySem.W.alike d e = true ∧ d ≠ .none ∧ min d.depth e.depth ≤ 8 ∧ d.hasDict = false ∧ e.hasDict = false := by
  unfold ordOk at h
  simp only [Bool.and_eq_true, Bool.not_eq_true', decide_eq_true_eq] at h
  obtain ⟨⟨⟨⟨h1, h2⟩, h3⟩, h4⟩, h5⟩ := h
  refine ⟨h1, fun e => ?_, h3, h4, h5⟩
  subst e
  simp at h2
theorem nomark' {o : Cmp} {r : Expr} (h : notSet r = true) : behindInMarks (cmpO o) r = false := notSet_in h
theorem cmpD_ok (hu : X.A.units + 64 < cLine) {o : Cmp} {d e : PyData} {z : Bool} (h : cmpD o d e = .ok z) : ∃ r, OpR X (compareOp (cmpO o)) r ∧ RD X.K r d e (.bool z) := by
  unfold cmpD at h
  split at h
  · split at h
    · rename_i hc; cases h; exact ⟨_, op_eqD hu, rd_eqD hc.1 hc.2⟩
    · cases h
  · split at h
    · rename_i hc; cases h; exact ⟨_, op_neD hu, rd_neD hc.1 hc.2⟩
    · cases h
  · cases h; exact ⟨_, op_lt, rd_bool⟩
  · cases h; exact ⟨_, op_le, rd_bool⟩
  · cases h; exact ⟨_, op_gt, rd_bool⟩
  · cases h; exact ⟨_, op_ge, rd_bool⟩
  · split at h
    · rename_i hc; obtain ⟨a, b, c, x, y⟩ := ordOk_of hc; cases h; exact ⟨_, op_ltD hu, rd_ord a b c x y⟩
    · cases h
  · split at h
    · rename_i hc; obtain ⟨a, b, c, x, y⟩ := ordOk_of hc; cases h; exact ⟨_, op_leD hu, rd_ord (f := fun d e => !PySem.W.dataLt e d) a b c x y⟩
    · cases h
  · split at h
    · rename_i hc; obtain ⟨a, b, c, x, y⟩ := ordOk_of hc; cases h; exact ⟨_, op_geD hu, rd_ord (f := fun d e => !PySem.W.dataLt d e) a b c x y⟩
    · cases h
  · cases h; exact ⟨_, op_isN, rd_isN⟩
  · cases h; exact ⟨_, op_notN, rd_notN⟩
  · cases h
theorem intsD_ok : ∀ {xs : List PyData} {ns : List Int}, intsD xs = .ok ns → xs = ns.map .int
  | [], ns, h => by cases h; rfl
  | d :: ds, ns, h => by
    obtain ⟨i, h1, h⟩ := Oc.bind_eq_ok h
    obtain ⟨js, h2, h⟩ := Oc.bind_eq_ok h
    cases h
    cases d <;> cases h1
    rw [intsD_ok h2]; rfl
theorem seqD_ok {d : PyData} {xs : List PyData} (h : seqD d = .ok xs) : d = .list xs ∨ d = .tuple xs := by
  cases d <;> cases h
  · exact .inl rfl
  · exact .inr rfl
def rTup1 (X : Cx) : List V → Hp → VK → Prop := fun xs H Q => ∃ p ys, xs = [.ref p] ∧ ((SqL X.K H p ys ∧ ∀ l, H l = none → Q (.ref l) (L2.upd H l (.tup ys))) ∨ (SqT X.K H p ys ∧ Q (.ref p) H))
theorem rc_tupT {ds : List PyData} : RC X.K (rTup1 X) [.tuple ds] (.tuple ds) := .mk fun {G H vs} s r Q q => by
  cases r with
  | cons r1 rr =>
    cases rr
    cases r1 with
    | tup s1 a => exact ⟨_, _, rfl, .inr ⟨SqT.of (s _ _ s1), q _ G H (.refl s) (.tup s1 a)⟩⟩
theorem dd_any {d : PyData} (h : isSeqD d = true) : (∃ xs, d = .tuple xs) ∨ ∃ xs, d = .list xs := by
  cases d <;> first | (cases h; done) | skip
  · exact .inr ⟨_, rfl⟩
  · exact .inl ⟨_, rfl⟩
/-- a built-in called -/
theorem bi_ok (g : Good X c tb is) {f : Bi} {xs : List Expr} {x : Str} {s0 s1 : List Sl} {ds : List PyData} {z : PyData} {p pos : Pos} {e : Expr} {es : List Expr} (hxs : xs = e :: es)
    (hx : (if biM f = true then mthB c x (biN f) else bltB c x (biN f)) = true) (hs : xs.all notStar = true) (hlen : xs.length = ds.length) (ha : EvA X xs s0 s1 ds) (h : biD f ds = .ok z) : Ev X (.Call (.Name x p) xs [] pos) s0 s1 z := by
  subst hxs
  · rw [List.all_cons, Bool.and_eq_true] at hs
    have he := notStar_ea (env := X.env) (es := es) hs.1
    have hp := star_plain (env := X.env) (pos := pos) hs.2
    unfold biD at h
    split at h
    · obtain ⟨rfl, hg, hm, hd, hn⟩ := g.bl hx
      rename_i d
      unfold lenD at h
      split at h
      · cases h; exact ev_callB call_len_seq ha rc_lenL hm hg PySem.boot_len hn hd he hp
      · cases h; exact ev_callB call_len_seq ha rc_lenT hm hg PySem.boot_len hn hd he hp
      · cases h
    · obtain ⟨rfl, hg, hm, hd, hn⟩ := g.bl hx
      obtain ⟨ys, h1, h⟩ := Oc.bind_eq_ok h
      obtain ⟨ns, h2, h⟩ := Oc.bind_eq_ok h
      cases h
      have e := intsD_ok h2
      subst e
      rcases seqD_ok h1 with rfl | rfl
      · exact ev_callB (id := "sum") (cr_sum g.calm) ha rc_sumL hm hg (by decide +kernel) hn hd he hp
      · exact ev_callB (id := "sum") (cr_sumT g.calm) ha rc_sumT hm hg (by decide +kernel) hn hd he hp
    · obtain ⟨rfl, hg, hm, hd, hn⟩ := g.bl hx
      cases h
      exact ev_callB (id := "abs") call_abs ha rc_abs hm hg (by decide +kernel) hn hd he hp
    · obtain ⟨rfl, hg, hm, hd, hn⟩ := g.bl hx
      cases h
      exact ev_callTy (T := "int") call_int1 ha rc_intB hm hg (by decide +kernel) hn hd he hp
    · obtain ⟨rfl, hg, hm, hd, hn⟩ := g.bl hx
      cases h
      refine ev_callTy (T := "int") call_int1 ha (.mk fun {G H vs} s r Q q => ?_) hm hg (by decide +kernel) hn hd he hp
      cases r with
      | cons r1 rr => cases rr; cases r1; exact .inl ⟨_, rfl, q _ G H (.refl s) (.int _)⟩
    · obtain ⟨hx1, hg, _, hm, hd⟩ := g.mt hx
      cases h
      have hid : mthId x = "math.gcd" := by rw [hx1]; rfl
      rw [hid] at hm
      exact ev_callF (id := "math.gcd") cr_gcd ha rc_gcd hm hg hd he hp
    · obtain ⟨hx1, hg, _, hm, hd⟩ := g.mt hx
      split at h
      · rename_i hc
        cases h
        have hid : mthId x = "math.lcm" := by rw [hx1]; rfl
        rw [hid] at hm
        exact ev_callF (id := "math.lcm") cr_lcm ha (rc_lcm hc) hm hg hd he hp
      · cases h
    · obtain ⟨rfl, hg, hm, hd, hn⟩ := g.bl hx
      split at h
      · rename_i hc; cases h; exact ev_callB (id := "min") (cr_min2D g.calm g.un) ha (rc_min2 hc.1 hc.2) hm hg (by decide +kernel) hn hd he hp
      · cases h
    · obtain ⟨rfl, hg, hm, hd, hn⟩ := g.bl hx
      split at h
      · rename_i hc; cases h; exact ev_callB (id := "max") (cr_max2D g.calm g.un) ha (rc_max2 hc.1 hc.2) hm hg (by decide +kernel) hn hd he hp
      · cases h
    · obtain ⟨rfl, hg, hm, hd, hn⟩ := g.bl hx
      cases h
      exact ev_callB (id := "min") (cr_min3 g.calm) ha rc_min3 hm hg (by decide +kernel) hn hd he hp
    · obtain ⟨rfl, hg, hm, hd, hn⟩ := g.bl hx
      obtain ⟨ys, h1, h⟩ := Oc.bind_eq_ok h
      cases h
      rcases seqD_ok h1 with rfl | rfl
      · exact ev_callTy call_tuple_of ha rc_tupL hm hg (by decide +kernel) hn hd he hp
      · exact ev_callTy call_tuple_of ha rc_tupT hm hg (by decide +kernel) hn hd he hp
    · obtain ⟨rfl, hg, hm, hd, hn⟩ := g.bl hx
      split at h
      · rename_i hc
        cases h
        cases es with
        | nil => exact ev_repr ha (dd_any hc.1) hc.2.1 hc.2.2.1 hc.2.2.2.1 hc.2.2.2.2 g.un g.gd hm hg he hp
        | cons e2 es => simp at hlen
      · cases h
    · cases h
theorem bl_ok (g : Good X c tb is) {f : Bl} {xs : List Expr} {x : Str} {s0 s1 : List Sl} {ds : List PyData} {zs : List PyData} {p pos : Pos} {e : Expr} {es : List Expr} (hxs : xs = e :: es)
    (hx : bltB c x (blN f) = true) (hs : xs.all notStar = true) (ha : EvA X xs s0 s1 ds) (h : blD f ds = .ok zs) : EvL X (.Call (.Name x p) xs [] pos) s0 s1 zs := by
  subst hxs
  rw [List.all_cons, Bool.and_eq_true] at hs
  have he := notStar_ea (env := X.env) (es := es) hs.1
  have hp := star_plain (env := X.env) (pos := pos) hs.2
  obtain ⟨rfl, hg, hm, hd, hn⟩ := g.bl hx
  unfold blD at h
  split at h
  · rcases seqD_ok h with rfl | rfl
    · exact el_callTy call_list_of ha rcl_listL hm hg (by decide +kernel) hn hd he hp
    · exact el_callTy call_list_of ha rcl_listT hm hg (by decide +kernel) hn hd he hp
  · obtain ⟨ys, h1, h⟩ := Oc.bind_eq_ok h
    split at h
    · rename_i hc
      cases h
      rcases seqD_ok h1 with rfl | rfl
      · exact el_callB (id := "sorted") (cr_sortedD g.un) ha (rcl_sorted hc.1 hc.2.1 hc.2.2) hm hg (by decide +kernel) hn hd he hp
      · exact el_callB (id := "sorted") (cr_sortedT g.un) ha (rcl_sortedT hc.1 hc.2.1 hc.2.2) hm hg (by decide +kernel) hn hd he hp
    · cases h
  · cases h
end
end Ewl
-- RD6
set_option Elab.async false
set_option linter.all false
set_option maxRecDepth 100000
set_option maxHeartbeats 4000000
namespace Ewl
open PySem L2
section
variable {X : Cx} {a b c e : Expr} {es : List Expr} {ss : List Stmt} {st : Stmt} {r : Res} {s0 s1 s2 s3 : List Sl} {d d1 d2 d3 z : PyData} {xs ys ws : List PyData} {pos p p2 p3 : Pos} {i j : Nat} {x y : Str}
theorem ev_andF {rest : List Expr} (h : Ev X a s0 s1 (.bool false)) : Ev X (.BoolOp .And (a :: b :: rest) pos) s0 s1 (.bool false) := .mk fun E Q q =>
  W.of (pe_and pe_W pe_W) (h E _ fun v G' H' E' g r => ⟨false, dp_bl r, q _ G' H' E' g (.bl false)⟩)
theorem ev_andT {rest : List Expr} (h : Ev X a s0 s1 (.bool true)) (h2 : Ev X (.BoolOp .And (b :: rest) pos) s1 s2 d) : Ev X (.BoolOp .And (a :: b :: rest) pos) s0 s2 d := .mk fun E Q q =>
  W.of (pe_and pe_W pe_W) (h E _ fun v G' H' E' g r => ⟨true, dp_bl r, h2 E' Q fun u G2 H2 E2 g2 r2 => q u G2 H2 E2 (g.trans g2) r2⟩)
theorem ev_orT {rest : List Expr} (h : Ev X a s0 s1 (.bool true)) : Ev X (.BoolOp .Or (a :: b :: rest) pos) s0 s1 (.bool true) := .mk fun E Q q =>
  W.of (pe_or pe_W pe_W) (h E _ fun v G' H' E' g r => ⟨true, dp_bl r, q _ G' H' E' g (.bl true)⟩)
theorem ev_orF {rest : List Expr} (h : Ev X a s0 s1 (.bool false)) (h2 : Ev X (.BoolOp .Or (b :: rest) pos) s1 s2 d) : Ev X (.BoolOp .Or (a :: b :: rest) pos) s0 s2 d := .mk fun E Q q =>
  W.of (pe_or pe_W pe_W) (h E _ fun v G' H' E' g r => ⟨false, dp_bl r, h2 E' Q fun u G2 H2 E2 g2 r2 => q u G2 H2 E2 (g.trans g2) r2⟩)
theorem ep_andF {rest : List Expr} (h : EvT X a s0 s1 false) : EvP X (.BoolOp .And (a :: b :: rest) pos) s0 s1 false := .mk fun E Q q => WP.of (pw_and pt_W pw_W) (h E _ fun G' H' E' g => q G' H' E' g)
theorem ep_andT {k : Bool} {rest : List Expr} (h : EvT X a s0 s1 true) (h2 : EvP X (.BoolOp .And (b :: rest) pos) s1 s2 k) : EvP X (.BoolOp .And (a :: b :: rest) pos) s0 s2 k := .mk fun E Q q =>
  WP.of (pw_and pt_W pw_W) (h E _ fun G' H' E' g => h2 E' Q fun G2 H2 E2 g2 => q G2 H2 E2 (g.trans g2))
theorem ep_orT {rest : List Expr} (h : EvT X a s0 s1 true) : EvP X (.BoolOp .Or (a :: b :: rest) pos) s0 s1 true := .mk fun E Q q => WP.of (pw_or pt_W pw_W) (h E _ fun G' H' E' g => q G' H' E' g)
theorem ep_orF {k : Bool} {rest : List Expr} (h : EvT X a s0 s1 false) (h2 : EvP X (.BoolOp .Or (b :: rest) pos) s1 s2 k) : EvP X (.BoolOp .Or (a :: b :: rest) pos) s0 s2 k := .mk fun E Q q =>
  WP.of (pw_or pt_W pw_W) (h E _ fun G' H' E' g => h2 E' Q fun G2 H2 E2 g2 => q G2 H2 E2 (g.trans g2))
theorem ev_iteT {t : Expr} (h : EvT X t s0 s1 true) (h1 : Ev X a s1 s2 d) : Ev X (.IfExp t a b pos) s0 s2 d := ev_ite h (fun _ => h1) fun q => nomatch q
theorem ev_iteF {t : Expr} (h : EvT X t s0 s1 false) (h1 : Ev X b s1 s2 d) : Ev X (.IfExp t a b pos) s0 s2 d := ev_ite h (fun q => nomatch q) fun _ => h1
/-- f(), a def of the program -/
theorem ev_callR0 {k : Nat} {g : List PyData → PyData → Prop} (F : FnR X.prog X.w X.K X.mg X.base x k (spD X.K g)) (hr : Room k X.A) (hG : X.A.guards = some []) (hg : g [] z) (hgl : Gl X x) (hdb : (x == ("__debug__" : Str)) = false) : Ev X (.Call (.Name x p) [] [] pos) s0 s0 z := .mk fun {G₀ H₀ G H σ} E Q q => by
  obtain ⟨f, fd, ps, hm, hk, hf, hb⟩ := F.ex
  have pe : PE X (.Call (.Name x p) [] [] pos) (fun σ H Q => spD X.K g [] H Q fun _ _ _ => False) := ⟨fun pins s σ H Q I h => by
    refine wpAny_Call_Name_kw (ld_glob I hgl hm ?_ hdb)
    refine PySem.W.callWith_K0 I.kIn hk ?_
    exact run_at (hf X.A hG hr) hb I .nil h⟩
  refine W.of pe ⟨G, [], z, E.s, .nil, hg, fun v G2 H2 g2 r2 => q v G2 H2 (E.grow g2) g2.g r2⟩

/-! ### which stores are swapped -/
theorem blk_fn {env : Env} (h : env.scope.kind = .function) : env.blockKind = .function := by unfold Env.blockKind; rw [h]; rfl
theorem not_star_any : ∀ {vs : List Expr}, vs.all notStar = true → (vs.any fun | .Starred .. => true | _ => false) = false
  | [], _ => rfl
  | v :: vs, h => by
    rw [List.all_cons, Bool.and_eq_true] at h
    rw [List.any_cons, not_star_any h.2, Bool.or_false]
    cases v <;> first | rfl | cases h.1
theorem any_not {f : Expr → Bool} (h : ∀ e, f e = !notStar e) : ∀ vs : List Expr, vs.any f = !vs.all notStar
  | [] => rfl
  | v :: vs => by rw [List.any_cons, List.all_cons, any_not h vs, h v, Bool.not_and]
theorem sw_eq {env : Env} {ts vs : List Expr} {pt pt2 : Pos} {kt k2 : Nat} {o : Option (List Str)} (hk : env.scope.kind = .function) (h : swS env.scope ts vs = some o) :
    swappedStores [.Tuple ts kt pt] (.Tuple vs k2 pt2) env = pure o := by
  have hb := blk_fn hk
  unfold swS at h
  unfold swappedStores
  dsimp only
  have hf : ∀ f : Expr → Option Str, (∀ e, f e = swName env.scope ((ts.head?.map (·.pos.line)).getD 0) e) → ts.filterMap f = ts.filterMap (swName env.scope ((ts.head?.map (·.pos.line)).getD 0)) := fun f h => by rw [funext h]
  have ks : ∀ f : Expr → Bool, (∀ e, f e = !notStar e) → vs.any f = !vs.all notStar := fun f h => any_not h vs
  rw [ks _ fun e => by cases e <;> rfl]
  rw [hf _ fun e => by cases e <;> rfl]
  split at h
  · rename_i c
    cases h
    rw [if_pos (by rw [c]; rfl)]
  · rename_i c
    have c' : (!(ts.length == 2 || ts.length == 3) || vs.length != ts.length) = false := by simpa using c
    rw [if_neg (by rw [c', hb]; decide)]
    split at h
    · rename_i c2
      rw [if_neg (by rw [c2]; decide)]
      split at h
      · rename_i c3; cases h; rw [if_pos c3]
      · rename_i c3
        rw [if_neg c3]
        split at h
        · rename_i c4; cases h; rw [if_pos c4]
        · rename_i c4
          rw [if_neg c4]
          split at h
          · cases h
          · rename_i c5; cases h; rw [if_neg c5]
    · rename_i c2
      cases h
      rw [if_pos (by simpa using c2)]

/-! ### x, y = .. of data and new lists -/
inductive MOwn (K : PySem.W.Frag) (G : Hp) : V → Sl → List (Addr × HO) → Prop
  | d {v : V} {z : PyData} : Dd K G v z → MOwn K G v (.d z) []
  | l {a : Addr} {ws : List V} {xs : List PyData} : DdAll K G ws xs → MOwn K G (.ref a) (.l xs) [(a, .lst ws)]
  | t {a : Addr} : MOwn K G (.ref a) (.dt []) [(a, .dT [])]
inductive MAll (K : PySem.W.Frag) (G : Hp) : List V → List Sl → List (Addr × HO) → Prop
  | nil : MAll K G [] [] []
  | cons {v : V} {m : Sl} {f : List (Addr × HO)} {vs : List V} {ms : List Sl} {fs : List (Addr × HO)} : MOwn K G v m f → MAll K G vs ms fs → MAll K G (v :: vs) (m :: ms) (f ++ fs)
theorem MOwn.mono {K : PySem.W.Frag} {G G' : Hp} {v : V} {m : Sl} {f : List (Addr × HO)} (g : Ex G G') : MOwn K G v m f → MOwn K G' v m f
  | .d h => .d (dp_mono g _ h)
  | .l h => .l (dpAll_mono g _ h)
  | .t => .t
def putAll : Hp → List (Addr × HO) → Hp
  | H, [] => H
  | H, p :: ps => putAll (L2.upd H p.1 p.2) ps
theorem putAll_app (H : Hp) : ∀ (fs gs : List (Addr × HO)), putAll H (fs ++ gs) = putAll (putAll H fs) gs
  | [], _ => rfl
  | p :: fs, gs => by exact putAll_app (L2.upd H p.1 p.2) fs gs
structure EvM (X : Cx) (es : List Expr) (sl sl' : List Sl) (ms : List Sl) : Prop where
  run : ∀ {G₀ H₀ G H : Hp} {σ : L2.St}, En X.K G₀ H₀ G H σ sl → ∀ Q : List V → Hp → Prop, (∀ vs fo G' H', En X.K G₀ H₀ G' H' σ sl' → Ex G G' → MAll X.K G' vs ms fo → (fo.map (·.1)).Nodup → (∀ p ∈ fo, H' p.1 = none) → Q vs (putAll H' fo)) → WA X es σ H Q
theorem em_nil : EvM X [] s0 s0 [] := .mk fun {G₀ H₀ G H σ} E Q q => WA.of pa_nil (q [] [] G H E (Ex.refl G) .nil .nil (by simp))
theorem em_e {ms : List Sl} (h : Ev X e s0 s1 d) (hr : EvM X es s1 s2 ms) (hs : notStar e = true) : EvM X (e :: es) s0 s2 (.d d :: ms) := .mk fun E Q q =>
  WA.of (pa_cons pe_W pa_W (notStar_ea hs)) (h E _ fun v G' H' E' g r => hr.run E' _ fun vs fo G2 H2 E2 g2 m nd fr => q (v :: vs) ([] ++ fo) G2 H2 E2 (g.trans g2) (.cons (.d (dp_mono g2 d r)) m) nd fr)
theorem fresh_own {a : Addr} {o : HO} {G₀ H₀ G1 H1 : Hp} {σ : L2.St} {sl sl' : List Sl} {es : List Expr} {ms : List Sl} {m : Sl} (E1 : En X.K G₀ H₀ G1 H1 σ sl) (ha : H1 a = none) (nt : NT o) (hr : EvM X es sl sl' ms) (Q : List V → Hp → Prop)
    (own : ∀ G', Ex G1 G' → MOwn X.K G' (.ref a) m [(a, o)])
    (q : ∀ vs fo G' H', En X.K G₀ H₀ G' H' σ sl' → Ex G1 G' → MAll X.K G' vs (m :: ms) fo → (fo.map (·.1)).Nodup → (∀ p ∈ fo, H' p.1 = none) → Q vs (putAll H' fo)) : WA X es σ (L2.upd H1 a o) fun vs H => Q (.ref a :: vs) H := by
  have h0 : H₀ a = none := E1.gw.h.back ha
  have g0 : G₀ a = none := (E1.gw.g.trans E1.s).back ha
  refine hr.run (E1.keep (o := o) ha) _ fun vs fo G2 H2 E2 g2 mm nd fr => ?_
  obtain ⟨H3, h3, e3, E3⟩ := E2.unkeep h0 g0 nt
  subst e3
  have na : ∀ p ∈ fo, p.1 ≠ a := fun p hp e => by
    have := fr p hp
    rw [e, upd_same] at this
    cases this
  refine q (.ref a :: vs) ([(a, o)] ++ fo) G2 H3 E3 g2 (.cons (own G2 g2) mm) ?_ ?_
  · rw [List.map_append, List.map_cons, List.map_nil, List.singleton_append, List.nodup_cons]
    refine ⟨fun z => ?_, nd⟩
    obtain ⟨p, hp, e⟩ := List.mem_map.mp z
    exact na p hp e
  · intro p hp
    rcases List.mem_append.mp hp with hp | hp
    · rw [List.mem_singleton.mp hp]; exact h3
    · have := fr p hp
      rwa [upd_ne (na p hp)] at this
theorem em_l {ms : List Sl} (h : EvL X e s0 s1 xs) (hr : EvM X es s1 s2 ms) (hs : notStar e = true) : EvM X (e :: es) s0 s2 (.l xs :: ms) := .mk fun E Q q =>
  WA.of (pa_cons pe_W pa_W (notStar_ea hs)) (h E _ fun a vs G1 H1 E1 g1 ha r => fresh_own E1 ha .lst hr Q (fun G' g => .l (dpAll_mono g _ r)) fun vs fo G' H' E' g => q vs fo G' H' E' (g1.trans g))
theorem em_t {ms : List Sl} (hr : EvM X es s0 s2 ms) : EvM X (.Dict [] [] p :: es) s0 s2 (.dt [] :: ms) := .mk fun {G₀ H₀ G H σ} E Q q =>
  WA.of (pa_cons pe_dnewT pa_W rfl) fun a ha => fresh_own E ha .dT hr Q (fun G' g => .t) q
theorem en_setM {K : PySem.W.Frag} {G₀ H₀ G H : Hp} {σ : L2.St} {sl : List Sl} {v : V} {m : Sl} {f : List (Addr × HO)} (E : En K G₀ H₀ G H σ sl) (hi : i < sl.length) (o : MOwn K G v m f) (fr : ∀ p ∈ f, H p.1 = none) : En K G₀ H₀ G (putAll H f) (σ.set i (some v)) (sl.set i m) := by
  cases o with
  | d h => exact E.setD hi h
  | l h => exact E.setL hi (fr _ (by simp)) h
  | t => exact E.setT hi (fr _ (by simp))
def setSt : L2.St → List Nat → List V → L2.St
  | σ, i :: is, v :: vs => setSt (σ.set i (some v)) is vs
  | σ, _, _ => σ
theorem putAll_off {a : Addr} : ∀ {fs : List (Addr × HO)} {H : Hp}, (∀ p ∈ fs, p.1 ≠ a) → putAll H fs a = H a
  | [], _, _ => rfl
  | p :: fs, H, h => by
    show putAll (L2.upd H p.1 p.2) fs a = _
    rw [putAll_off fun q hq => h q (List.mem_cons_of_mem _ hq), upd_ne (Ne.symm (h p (by simp)))]
theorem en_setAll {K : PySem.W.Frag} {G₀ H₀ G : Hp} : ∀ {is : List Nat} {vs : List V} {ms : List Sl} {fo : List (Addr × HO)} {H : Hp} {σ : L2.St} {sl sl' : List Sl}, En K G₀ H₀ G H σ sl → MAll K G vs ms fo → (fo.map (·.1)).Nodup → (∀ p ∈ fo, H p.1 = none) → setAll sl is ms = .ok sl' → En K G₀ H₀ G (putAll H fo) (setSt σ is vs) sl'
  | [], _, [], _, H, σ, sl, sl', E, m, nd, fr, h => by
    cases m; cases h; exact E
  | i :: is, _, v :: ms, _, H, σ, sl, sl', E, m, nd, fr, h => by
    cases m with
    | cons o mm =>
      rename_i w f vs fs
      obtain ⟨s1, h1, h⟩ := Oc.bind_eq_ok h
      unfold setS at h1
      split at h1
      · rename_i hi
        cases h1
        rw [putAll_app]
        rw [List.map_append, List.nodup_append] at nd
        exact en_setAll (is := is) (en_setM E hi o fun p hp => fr p (List.mem_append_left _ hp)) mm nd.2.1 (fun p hp => by
          rw [putAll_off fun q hq e => nd.2.2 q.1 (List.mem_map.mpr ⟨q, hq, rfl⟩) p.1 (List.mem_map.mpr ⟨p, hp, rfl⟩) e]
          exact fr p (List.mem_append_right _ hp)) h
      · cases h1
  | [], _, _ :: _, _, _, _, _, _, _, _, _, _, h => by cases h
  | _ :: _, _, [], _, _, _, _, _, _, _, _, _, h => by cases h
end
end Ewl
-- RD7
set_option Elab.async false
set_option linter.all false
set_option maxRecDepth 100000
set_option maxHeartbeats 4000000
namespace Ewl
open PySem L2
section
variable {X : Cx} {a b c e : Expr} {es : List Expr} {ss : List Stmt} {st : Stmt} {r : Res} {s0 s1 s2 s3 : List Sl} {d d1 d2 d3 z : PyData} {xs ys ws : List PyData} {pos p p2 p3 : Pos} {i j : Nat} {x y : Str}
theorem swName_some {sc : Scope} {l : Nat} {e : Expr} {x : Str} (h : swName sc l e = some x) : ∃ px, e = .Name x px ∧ sc.names.lookup x = some .local := by
  unfold swName at h
  split at h
  · rename_i id pos
    split at h
    · rename_i c
      cases h
      rw [Bool.and_eq_true] at c
      exact ⟨_, rfl, eq_of_beq c.1⟩
    · cases h
  · cases h
theorem swS_names {sc : Scope} {ts vs : List Expr} {ns : List Str} (h : swS sc ts vs = some (some ns)) : (ts.length = 2 ∨ ts.length = 3) ∧ vs.length = ts.length ∧ ts.filterMap (swName sc ((ts.head?.map (·.pos.line)).getD 0)) = ns ∧ ns.length = ts.length := by
  unfold swS at h
  split at h
  · cases h
  · rename_i c
    split at h
    · split at h
      · cases h
      · rename_i c2
        split at h
        · cases h
        · split at h
          · cases h
          · cases h
            rw [Bool.or_eq_true, not_or] at c2
            have c3 := Decidable.not_not.mp fun h => c2.1 (bne_iff_ne.mpr h)
            simp at c
            refine ⟨?_, c.2, rfl, c3⟩
            by_cases h2 : ts.length = 2
            · exact .inl h2
            · exact .inr (c.1 h2)
    · cases h
theorem fm_all {α β : Type} {f : α → Option β} : ∀ {ts : List α}, (ts.filterMap f).length = ts.length → ∀ {i : Nat} {t : α}, ts[i]? = some t → ∃ y, f t = some y ∧ (ts.filterMap f)[i]? = some y
  | [], _, _, _, h => by simp at h
  | t :: ts, hl, i, u, h => by
    have le := List.length_filterMap_le f ts
    rw [List.filterMap_cons] at hl ⊢
    cases e : f t with
    | none => rw [e] at hl; simp only [List.length_cons] at hl; omega
    | some y =>
      rw [e] at hl
      simp only [List.length_cons] at hl
      cases i with
      | zero => simp at h; subst h; exact ⟨y, e, by simp⟩
      | succ i => simp at h; obtain ⟨y', h1, h2⟩ := fm_all (by omega : (ts.filterMap f).length = ts.length) h; exact ⟨y', h1, by simpa using h2⟩
theorem st_parM {is : List Nat} {ts vs : List Expr} {ns : List Str} {ms : List Sl} {kt k2 : Nat} {pt pt2 : Pos} (hm : EvM X vs s0 s1 ms) (hs : setAll s1 is ms = .ok s2) (hc : X.calm = true) (hk : X.env.scope.kind = .function) (hN : X.N.Nodup)
    (hd : distinct is = true) (hl : is.length = ts.length) (hw : swS X.env.scope ts vs = some (some ns)) (hi : (is.filterMap fun i => X.N[i]?) = ns) (hil : (is.filterMap fun i => X.N[i]?).length = is.length) :
    St1 X (.Assign [.Tuple ts kt pt] (.Tuple vs k2 pt2) pos) s0 (.nx s2) := .mk fun {G₀ H₀ G H σ} E D kk => by
  have hsw := sw_eq (pt := pt) (pt2 := pt2) (kt := kt) (k2 := k2) hk hw
  obtain ⟨h23, hvl, hf, hnl⟩ := swS_names hw
  have fin : ∀ vs' fo G' H', En X.K G₀ H₀ G' H' σ s1 → Ex G G' → MAll X.K G' vs' ms fo → (fo.map (·.1)).Nodup → (∀ p ∈ fo, H' p.1 = none) → D.nx (setSt σ is vs') (putAll H' fo) := fun vs' fo G' H' E' g m nd fr => kk _ G' _ (en_setAll E' m nd fr hs) g
  have get : ∀ {k : Nat} {t : Expr}, ts[k]? = some t → ∃ y px, t = .Name y px ∧ X.env.scope.names.lookup y = some .local ∧ ns[k]? = some y := fun {k t} ht => by
    obtain ⟨y, h1, h2⟩ := fm_all (f := swName X.env.scope ((ts.head?.map (·.pos.line)).getD 0)) (by rw [hf]; exact hnl) ht
    obtain ⟨px, e, l⟩ := swName_some h1
    exact ⟨y, px, e, l, by rw [hf] at h2; exact h2⟩
  have geti : ∀ {k i : Nat}, is[k]? = some i → ∃ y, X.N[i]? = some y ∧ ns[k]? = some y := fun {k i} h => by
    obtain ⟨y, h1, h2⟩ := fm_all hil h
    rw [hi] at h2
    exact ⟨y, h1, h2⟩
  rcases h23 with h2 | h3
  · obtain ⟨t1, t2, rfl⟩ : ∃ t1 t2, ts = [t1, t2] := by
      match ts, h2 with
      | [t1, t2], _ => exact ⟨t1, t2, rfl⟩
    obtain ⟨v1, v2, rfl⟩ : ∃ t1 t2, vs = [t1, t2] := by
      match vs, hvl with
      | [t1, t2], _ => exact ⟨t1, t2, rfl⟩
    obtain ⟨i, j, rfl⟩ : ∃ i j, is = [i, j] := by
      match is, hl with
      | [i, j], _ => exact ⟨i, j, rfl⟩
    obtain ⟨x, px, rfl, lx, nx⟩ := get (k := 0) rfl
    obtain ⟨y, py, rfl, ly, ny⟩ := get (k := 1) rfl
    obtain ⟨x', ix, nx'⟩ := geti (k := 0) rfl
    obtain ⟨y', iy, ny'⟩ := geti (k := 1) rfl
    rw [nx] at nx'; cases nx'
    rw [ny] at ny'; cases ny'
    have hns : ns = [x, y] := by
      match ns, hnl, nx, ny with
      | [a, b], _, h1, h2 => simp at h1 h2; rw [h1, h2]
    subst hns
    have hij : i ≠ j := by simpa [distinct] using hd
    refine WS.of (ps_par hc hN ix iy hij lx ly pa_W hsw rfl) (hm.run E _ fun vs' fo G' H' E' g m nd fr => ?_)
    have f := fin vs' fo G' H' E' g m nd fr
    cases m with
    | cons o1 m =>
      cases m with
      | cons o2 m =>
        cases m with
        | nil => exact ⟨_, _, rfl, f⟩
        | cons _ _ => cases (Oc.bind_eq_ok hs).choose_spec.2 |> Oc.bind_eq_ok |>.choose_spec.2
      | nil => cases (Oc.bind_eq_ok hs).choose_spec.2
    | nil => cases hs
  · obtain ⟨t1, t2, t3, rfl⟩ : ∃ t1 t2 t3, ts = [t1, t2, t3] := by
      match ts, h3 with
      | [t1, t2, t3], _ => exact ⟨t1, t2, t3, rfl⟩
    obtain ⟨v1, v2, v3, rfl⟩ : ∃ t1 t2 t3, vs = [t1, t2, t3] := by
      match vs, hvl with
      | [t1, t2, t3], _ => exact ⟨t1, t2, t3, rfl⟩
    obtain ⟨i, j, l, rfl⟩ : ∃ i j l, is = [i, j, l] := by
      match is, hl with
      | [i, j, l], _ => exact ⟨i, j, l, rfl⟩
    obtain ⟨x, px, rfl, lx, nx⟩ := get (k := 0) rfl
    obtain ⟨y, py, rfl, ly, ny⟩ := get (k := 1) rfl
    obtain ⟨z, pz, rfl, lz, nz⟩ := get (k := 2) rfl
    obtain ⟨x', ix, nx'⟩ := geti (k := 0) rfl
    obtain ⟨y', iy, ny'⟩ := geti (k := 1) rfl
    obtain ⟨z', iz, nz'⟩ := geti (k := 2) rfl
    rw [nx] at nx'; cases nx'
    rw [ny] at ny'; cases ny'
    rw [nz] at nz'; cases nz'
    have hns : ns = [x, y, z] := by
      match ns, hnl, nx, ny, nz with
      | [a, b, c], _, h1, h2, h3 => simp at h1 h2 h3; rw [h1, h2, h3]
    subst hns
    have hd' : (i ≠ j ∧ i ≠ l) ∧ j ≠ l := by simpa [distinct] using hd
    refine WS.of (ps_par3 hc hN ix iy iz hd'.1.1 hd'.1.2 hd'.2 lx ly lz pa_W hsw rfl) (hm.run E _ fun vs' fo G' H' E' g m nd fr => ?_)
    have f := fin vs' fo G' H' E' g m nd fr
    cases m with
    | cons o1 m =>
      cases m with
      | cons o2 m =>
        cases m with
        | cons o3 m =>
          cases m with
          | nil => exact ⟨_, _, _, rfl, f⟩
          | cons _ _ => cases (Oc.bind_eq_ok (Oc.bind_eq_ok (Oc.bind_eq_ok hs).choose_spec.2).choose_spec.2).choose_spec.2
        | nil => cases (Oc.bind_eq_ok (Oc.bind_eq_ok hs).choose_spec.2).choose_spec.2
      | nil => cases (Oc.bind_eq_ok hs).choose_spec.2
    | nil => cases hs

/-! ### comprehensions given to a name -/
def swL (sc : Scope) (x : Str) (p : Pos) : Expr → Bool
  | .ListComp _ _ scope q => sc.names.lookup x == some .local && (p.line == q.line && !(scope.names.any fun (n, k) => n == x && (k == .local || k == .cell)))
  | _ => false
/-- what a walk over new lists tells -/
theorem lcF_at {own : List Nat} {step : Sls → PyData → Oc (Sls × PyData)} : ∀ {ds : List PyData} {s t : Sls} {ys : List PyData}, lcF own step ds s = .ok (t, ys) → ys.length = ds.length ∧ ∃ S : Nat → Sls, S 0 = s ∧ S ds.length = t ∧ ∀ i d y, ds[i]? = some d → ys[i]? = some y → ∃ m', step (S i) d = .ok (m', y) ∧ wipeS m' own = S (i + 1)
  | [], s, t, ys, h => by
    cases h
    exact ⟨rfl, fun _ => s, rfl, rfl, fun i d y hd => by simp at hd⟩
  | d :: ds, s, t, ys, h => by
    obtain ⟨p, h1, h⟩ := Oc.bind_eq_ok h
    obtain ⟨q, h2, h⟩ := Oc.bind_eq_ok h
    cases h
    obtain ⟨hl, S, a, b, f⟩ := lcF_at h2
    refine ⟨by simp [hl], fun i => match i with | 0 => s | i + 1 => S i, rfl, b, fun i d' y hd hy => ?_⟩
    cases i with
    | zero => simp at hd hy; subst hd hy; exact ⟨_, h1, a.symm⟩
    | succ i => exact f i d' y (by simpa using hd) (by simpa using hy)
theorem lcLF_at {own : List Nat} {step : Sls → PyData → Oc (Sls × List PyData)} : ∀ {ds : List PyData} {s t : Sls} {ys : List (List PyData)}, lcLF own step ds s = .ok (t, ys) → ys.length = ds.length ∧ ∃ S : Nat → Sls, S 0 = s ∧ S ds.length = t ∧ ∀ i d y, ds[i]? = some d → ys[i]? = some y → ∃ m', step (S i) d = .ok (m', y) ∧ wipeS m' own = S (i + 1)
  | [], s, t, ys, h => by
    cases h
    exact ⟨rfl, fun _ => s, rfl, rfl, fun i d y hd => by simp at hd⟩
  | d :: ds, s, t, ys, h => by
    obtain ⟨p, h1, h⟩ := Oc.bind_eq_ok h
    obtain ⟨q, h2, h⟩ := Oc.bind_eq_ok h
    cases h
    obtain ⟨hl, S, a, b, f⟩ := lcLF_at h2
    refine ⟨by simp [hl], fun i => match i with | 0 => s | i + 1 => S i, rfl, b, fun i d' y hd hy => ?_⟩
    cases i with
    | zero => simp at hd hy; subst hd hy; exact ⟨_, h1, a.symm⟩
    | succ i => exact f i d' y (by simpa using hd) (by simpa using hy)
theorem lcIfF_at {own : List Nat} {step : Sls → PyData → Oc (Sls × Option PyData)} : ∀ {ds : List PyData} {s t : Sls} {ys : List PyData}, lcIfF own step ds s = .ok (t, ys) → ∃ zs : List (Option PyData), zs.filterMap id = ys ∧ zs.length = ds.length ∧ ∃ S : Nat → Sls, S 0 = s ∧ S ds.length = t ∧ ∀ i d z, ds[i]? = some d → zs[i]? = some z → ∃ m', step (S i) d = .ok (m', z) ∧ wipeS m' own = S (i + 1)
  | [], s, t, ys, h => by
    cases h
    exact ⟨[], rfl, rfl, fun _ => s, rfl, rfl, fun i d y hd => by simp at hd⟩
  | d :: ds, s, t, ys, h => by
    obtain ⟨p, h1, h⟩ := Oc.bind_eq_ok h
    obtain ⟨q, h2, h⟩ := Oc.bind_eq_ok h
    cases h
    obtain ⟨zs, e, hl, S, a, b, f⟩ := lcIfF_at h2
    refine ⟨p.2 :: zs, ?_, by simp [hl], fun i => match i with | 0 => s | i + 1 => S i, rfl, b, fun i d' y hd hy => ?_⟩
    · rw [List.filterMap_cons]; cases p.2 <;> simp [e]
    · cases i with
      | zero => simp at hd hy; subst hd hy; exact ⟨_, h1, a.symm⟩
      | succ i => exact f i d' y (by simpa using hd) (by simpa using hy)
theorem lc1F_at {step : PyData → Oc PyData} : ∀ {ds ys : List PyData}, lc1F step ds = .ok ys → ys.length = ds.length ∧ ∀ (i : Nat) d y, ds[i]? = some d → ys[i]? = some y → step d = .ok y
  | [], ys, h => by cases h; exact ⟨rfl, fun i d y hd => by simp at hd⟩
  | d :: ds, ys, h => by
    obtain ⟨p, h1, h⟩ := Oc.bind_eq_ok h
    obtain ⟨q, h2, h⟩ := Oc.bind_eq_ok h
    cases h
    obtain ⟨hl, f⟩ := lc1F_at h2
    refine ⟨by simp [hl], fun i d' y hd hy => ?_⟩
    cases i with
    | zero => simp at hd hy; subst hd hy; exact h1
    | succ i => exact f i d' y (by simpa using hd) (by simpa using hy)
theorem lc2F_at {step : PyData → Oc (List PyData)} : ∀ {ds : List PyData} {ys : List PyData}, lc2F step ds = .ok ys → ∃ yss : List (List PyData), yss.flatten = ys ∧ yss.length = ds.length ∧ ∀ (i : Nat) d y, ds[i]? = some d → yss[i]? = some y → step d = .ok y
  | [], ys, h => by cases h; exact ⟨[], rfl, rfl, fun i d y hd => by simp at hd⟩
  | d :: ds, ys, h => by
    obtain ⟨p, h1, h⟩ := Oc.bind_eq_ok h
    obtain ⟨q, h2, h⟩ := Oc.bind_eq_ok h
    cases h
    obtain ⟨yss, e, hl, f⟩ := lc2F_at h2
    refine ⟨p :: yss, by simp [e], by simp [hl], fun i d' y hd hy => ?_⟩
    cases i with
    | zero => simp at hd hy; subst hd hy; exact h1
    | succ i => exact f i d' y (by simpa using hd) (by simpa using hy)
theorem forF_at {step : Sls → PyData → Oc Res} : ∀ {ds : List PyData} {s : Sls} {r : Res}, forF step ds s = .ok r → ∃ S : Nat → Sls, S 0 = s ∧
    ((r = .nx (S ds.length) ∧ ∀ i d, ds[i]? = some d → step (S i) d = .ok (.nx (S (i + 1)))) ∨
     ∃ i₀ t z, i₀ < ds.length ∧ r = .ret t z ∧ (∀ i d, i < i₀ → ds[i]? = some d → step (S i) d = .ok (.nx (S (i + 1)))) ∧ ∀ d, ds[i₀]? = some d → step (S i₀) d = .ok (.ret t z))
  | [], s, r, h => by
    cases h
    exact ⟨fun _ => s, rfl, .inl ⟨rfl, fun i d hd => by simp at hd⟩⟩
  | d :: ds, s, r, h => by
    obtain ⟨p, h1, h⟩ := Oc.bind_eq_ok h
    cases p with
    | ret t z =>
      cases h
      exact ⟨fun _ => s, rfl, .inr ⟨0, t, z, by simp, rfl, fun i d hi => by omega, fun d' hd => by simp at hd; subst hd; exact h1⟩⟩
    | nx s' =>
      obtain ⟨S, a, q⟩ := forF_at (ds := ds) h
      refine ⟨fun i => match i with | 0 => s | i + 1 => S i, rfl, ?_⟩
      rcases q with ⟨e, f⟩ | ⟨i₀, t, z, hi, e, f, g⟩
      · refine .inl ⟨e, fun i d' hd => ?_⟩
        cases i with
        | zero => simp at hd; subst hd; show step s d = .ok (.nx (S 0)); rw [a]; exact h1
        | succ i => exact f i d' (by simpa using hd)
      · refine .inr ⟨i₀ + 1, t, z, by simp; omega, e, fun i d' hlt hd => ?_, fun d' hd => g d' (by simpa using hd)⟩
        cases i with
        | zero => simp at hd; subst hd; show step s d = .ok (.nx (S 0)); rw [a]; exact h1
        | succ i => exact f i d' (by omega) (by simpa using hd)
theorem whlN_at {c : Sls → Oc (Sls × Bool)} {b : Sls → Oc Res} : ∀ {k : Nat} {s : Sls} {r : Res}, whlN c b k s = .ok r → ∃ (n : Nat) (S M : Nat → Sls) (t : Sls), S 0 = s ∧ r = .nx t ∧ (∀ i, i < n → c (S i) = .ok (M i, true) ∧ b (M i) = .ok (.nx (S (i + 1)))) ∧ c (S n) = .ok (t, false)
  | 0, s, r, h => by cases h
  | k + 1, s, r, h => by
    obtain ⟨p, h1, h⟩ := Oc.bind_eq_ok h
    obtain ⟨m, q⟩ := p
    cases q with
    | false => cases h; exact ⟨0, fun _ => s, fun _ => s, m, rfl, rfl, fun i hi => by omega, h1⟩
    | true =>
      obtain ⟨r1, h2, h⟩ := Oc.bind_eq_ok h
      cases r1 with
      | ret _ _ => cases h
      | nx s' =>
        obtain ⟨n, S, M, t, a, e, f, g⟩ := whlN_at (k := k) h
        refine ⟨n + 1, fun i => match i with | 0 => s | i + 1 => S i, fun i => match i with | 0 => m | i + 1 => M i, t, rfl, e, fun i hi => ?_, g⟩
        cases i with
        | zero => exact ⟨h1, by show b m = .ok (.nx (S 0)); rw [a]; exact h2⟩
        | succ i => exact f i (by omega)
end
end Ewl
-- RS2
set_option Elab.async false
set_option linter.all false
set_option maxRecDepth 100000
set_option maxHeartbeats 4000000
/-! t[lo:hi:-1] of a tuple; xs.extend(ys); type(x) not in (T, S). -/
namespace HT
open PySem PySem.Spec PyProof.Rows PySem.W L2
section
variable {prog : Program} {w : World} {A : Around} {E : Value → Shared → Prop} {s : Shared}
/-- the items, from the back -/
def backV {α : Type} (xs : List α) (lo hi : Option Int) : List α :=
  (List.range (Builtin.Slice.slicePlaces (Builtin.Slice.sliceAdjust lo hi (-1) (xs.length : Int)).1 (Builtin.Slice.sliceAdjust lo hi (-1) (xs.length : Int)).2 (-1))).filterMap fun (k : Nat) => xs[((Builtin.Slice.sliceAdjust lo hi (-1) (xs.length : Int)).1 + (k : Int) * (-1)).toNat]?
theorem sliceApplied_back {sl : Addr} {vl vu vs : Value} {lo hi : Option Int} {n : Nat} {Q : Int × Int × Nat → Shared → Prop} (hs : s.heap.IsSliceOf sl vl vu vs) (pl : IsPart vl lo) (pu : IsPart vu hi) (ps : IsPart vs (some (-1)))
    (h : Q ((Builtin.Slice.sliceAdjust lo hi (-1) (n : Int)).1, -1, Builtin.Slice.slicePlaces (Builtin.Slice.sliceAdjust lo hi (-1) (n : Int)).1 (Builtin.Slice.sliceAdjust lo hi (-1) (n : Int)).2 (-1)) s) : wpAny (model prog w) A (Builtin.Slice.sliceApplied (.ref sl) (pure (n : Int))) Q E s := by
  obtain ⟨os, hos, hcs, hds⟩ := id hs
  unfold Builtin.Slice.sliceApplied Builtin.Slice.sliceFields
  refine wpAny_bind (wpAny_bind (wpAny_field hos hds (x := vl) rfl (wpAny_bind (wpAny_field hos hds (x := vu) rfl (wpAny_bind (wpAny_field hos hds (x := vs) rfl (wpAny_pure ?_)))))))
  refine wpAny_bind (slicePart_ ps ?_)
  show wpAny _ _ (if ((-1 : Int) == 0) = true then _ else _) _ _ s
  rw [if_neg (by decide)]
  refine wpAny_bind (slicePart_ pl (wpAny_bind (slicePart_ pu (wpAny_bind (wpAny_pure ?_)))))
  show wpAny _ _ (match Builtin.Slice.sliceAdjust lo hi (-1) (n : Int) with | (lo, hi) => pure (lo, (-1 : Int), Builtin.Slice.slicePlaces lo hi (-1))) _ _ s
  exact wpAny_pure h
theorem getItem_tuple_back {t sl : Addr} {items : List Value} {vl vu vs : Value} {lo hi : Option Int} {Q : Value → Shared → Prop} (ht : IsTup s.heap t items.toArray) (hs : s.heap.IsSliceOf sl vl vu vs) (pl : IsPart vl lo) (pu : IsPart vu hi) (ps : IsPart vs (some (-1)))
    (h : Q (.ref s.heap.objs.size) { s with heap := s.heap.push { cls := .type "tuple", data := .seq (backV items lo hi).toArray } })
    (hsz : (backV items lo hi).length ≤ sizeLine) : wpAny (model prog w) A (getItem (.ref t) (.ref sl)) Q E s := by
  have htake : sizeOk (.seq (backV items lo hi).toArray) := by
    show (backV items lo hi).toArray.size ≤ sizeLine
    rw [List.size_toArray]; exact hsz
  obtain ⟨os, hos, hcs, hds⟩ := id hs
  have hTs : s.TypeIs (.ref sl) "slice" := ⟨os, hos, hcs⟩
  unfold getItem
  try with_reducible refine wpAny_holding ?_
  first | refine wpAny_bind (wpAny_pure ?_) | skip
  refine wpAny_bind (wpAny_sequenceKey ht.typeIs (by decide) ?_)
  refine wpAny_bind (wpAny_callSpecial?_slot (name := Str.ofString "__getitem__") ht.typeIs PyProof.Rows.slot_tuple_getitem
    (wpAny_call_entry PyProof.Rows.slot_tuple_getitem ht.typeIs entry_tuple_getitem ?_ (args_tuple_getitem _ _)))
  show wpAny _ _ (Builtin.Tuple.tupleItemsOf (.ref t) >>= _) _ _ s
  refine wpAny_bind (tupleItemsOf_ ht ?_)
  refine wpAny_bind (wpAny_typeOf hTs ?_)
  rw [if_pos (by decide)]
  have en : items.toArray.size = items.length := List.size_toArray ..
  refine wpAny_bind (sliceApplied_back hs pl pu ps ?_)
  rw [en]
  have hno : ¬ ((((Builtin.Slice.sliceAdjust lo hi (-1) (items.length : Int)).1) == 0 && (-1 : Int) == 1 && (Builtin.Slice.slicePlaces (Builtin.Slice.sliceAdjust lo hi (-1) (items.length : Int)).1 (Builtin.Slice.sliceAdjust lo hi (-1) (items.length : Int)).2 (-1)) == items.toArray.size) = true) := by
    intro q
    rw [Bool.and_eq_true, Bool.and_eq_true] at q
    exact absurd q.1.2 (by decide)
  show wpAny _ _ (if (((Builtin.Slice.sliceAdjust lo hi (-1) (items.length : Int)).1) == 0 && (-1 : Int) == 1 && (Builtin.Slice.slicePlaces (Builtin.Slice.sliceAdjust lo hi (-1) (items.length : Int)).1 (Builtin.Slice.sliceAdjust lo hi (-1) (items.length : Int)).2 (-1)) == items.toArray.size) = true then _ else _) _ _ s
  rw [if_neg hno]
  have ep : ((List.range (Builtin.Slice.slicePlaces (Builtin.Slice.sliceAdjust lo hi (-1) (items.length : Int)).1 (Builtin.Slice.sliceAdjust lo hi (-1) (items.length : Int)).2 (-1))).filterMap fun (k : Nat) => items.toArray[((Builtin.Slice.sliceAdjust lo hi (-1) (items.length : Int)).1 + (k : Int) * (-1)).toNat]?).toArray = (backV items lo hi).toArray := by
    unfold backV
    congr 2
    funext k
    simp
  rw [ep]
  first
    | exact wpAny_bind (m := Builtin.Tuple.tupleExact _) (wpAny_newObj_type (wpAny_pure ⟨_, rfl, wpAny_pure h⟩) htake)
    | exact wpAny_bind (m := Builtin.Tuple.tupleExact _) (wpAny_newObj_type (wpAny_bind (wpAny_pure (wpAny_pure ⟨_, rfl, wpAny_pure h⟩))) htake)
    | exact wpAny_bind (wpAny_bind (m := Builtin.Tuple.tupleExact _) (wpAny_newObj_type (wpAny_pure (wpAny_pure ⟨_, rfl, wpAny_pure h⟩)) htake))
    | exact wpAny_bind (wpAny_bind (m := Builtin.Tuple.tupleExact _) (wpAny_newObj_type (wpAny_pure ⟨_, rfl, wpAny_pure h⟩) htake))
end
end HT
namespace Ewl
open PySem L2 HT
section
variable {X : Cx} {a b c e : Expr} {es : List Expr} {s0 s1 s2 s3 s4 : List Sl} {d d1 d2 z : PyData} {xs ys : List PyData} {pos p p2 p3 : Pos} {i j : Nat} {x y : Str}
theorem dp_filterMap {K : PySem.W.Frag} {G : Hp} {vs : List V} {ds : List PyData} (h : DdAll K G vs ds) (f : Nat → Nat) : ∀ ks : List Nat, DdAll K G (ks.filterMap fun k => vs[f k]?) (ks.filterMap fun k => ds[f k]?)
  | [] => .nil
  | k :: ks => by
    have hl := dpAll_len h
    rw [List.filterMap_cons, List.filterMap_cons]
    cases hv : vs[f k]? with
    | none =>
      have : ds[f k]? = none := by rw [List.getElem?_eq_none_iff] at hv ⊢; omega
      rw [this]
      exact dp_filterMap h f ks
    | some v =>
      obtain ⟨d, hd, r⟩ := dpAll_get' h hv
      rw [hd]
      exact .cons r (dp_filterMap h f ks)
theorem back_dd {K : PySem.W.Frag} {G : Hp} {vs : List V} {ds : List PyData} (h : DdAll K G vs ds) (lo hi : Option Int) : DdAll K G (backV vs lo hi) (backV ds lo hi) := by
  unfold backV
  rw [dpAll_len h]
  exact dp_filterMap h (fun k => ((Builtin.Slice.sliceAdjust lo hi (-1) (ds.length : Int)).1 + (k : Int) * (-1)).toNat) _
theorem vals_filterMap {vs : List V} {us : List Value} (h : Vals vs us) (f : Nat → Nat) : ∀ ks : List Nat, Vals (ks.filterMap fun k => vs[f k]?) (ks.filterMap fun k => us[f k]?)
  | [] => .nil
  | k :: ks => by
    have hl := h.length
    rw [List.filterMap_cons, List.filterMap_cons]
    cases hv : vs[f k]? with
    | none =>
      have : us[f k]? = none := by rw [List.getElem?_eq_none_iff] at hv ⊢; omega
      rw [this]
      exact vals_filterMap h f ks
    | some v =>
      obtain ⟨d, hd, r⟩ := h.get hv
      rw [hd]
      exact .cons r (vals_filterMap h f ks)
theorem back_vals {vs : List V} {us : List Value} (h : Vals vs us) (lo hi : Option Int) : Vals (backV vs lo hi) (backV us lo hi) := by
  unfold backV
  rw [h.length]
  exact vals_filterMap h (fun k => ((Builtin.Slice.sliceAdjust lo hi (-1) (us.length : Int)).1 + (k : Int) * (-1)).toNat) _
theorem ev_back {lo hi : Option Expr} {st : Expr} {l h : Option Int} (ha : Ev X a s0 s1 (.tuple xs)) (hl : EvO X lo s1 s2 l) (hh : EvO X hi s2 s3 h) (hs : EvO X (some st) s3 s4 (some (-1))) (hz : (backV xs l h).length ≤ 1000) : Ev X (.Subscript a (.Slice lo hi (some st) p2) pos) s0 s4 (.tuple (backV xs l h)) := .mk fun {G₀ H₀ G H σ} E Q q => by
  have pe : PE X (.Subscript a (.Slice lo hi (some st) p2) pos) (fun σ H Q => W X a σ H fun x H1 => WO X lo σ H1 fun l' H2 => WO X hi σ H2 fun h' H3 => WO X (some st) σ H3 fun st' H4 => ∃ b vs, x = .ref b ∧ st' = some (-1) ∧ SqT X.K H4 b vs ∧ (backV vs l' h').length ≤ sizeLine ∧ ∀ p, H4 p = none → Q (.ref p) (L2.upd H4 p (.tup (backV vs l' h')))) := ⟨fun pins s σ H Q I hw => by
    refine PyProof.Rows.Subscript_ (thn (hw pins s I) fun v s1 ⟨x, H1, I1, r1, q1⟩ => ?_)
    refine wpAny_Slice (thn (q1 pins s1 I1) fun vl s2 ⟨l, H2, I2, pl, q2⟩ => thn (q2 pins s2 I2) fun vu s3 ⟨u, H3, I3, pu, q3⟩ => thn (q3 pins s3 I3) fun vst s4 ⟨w', H4, I4', pst, b, vs, ex, ew, hb, hz', q4⟩ => ?_)
    subst ex ew
    cases r1
    have I4 : L2.Inv X pins σ H4 { s4 with heap := s4.heap.push { cls := .type "slice", data := .fields #[vl, vu, vst] } } := I4'.kept (t' := s4.toks) fun b ob q => Heap.get?_push_of_some _ q
    obtain ⟨its, r, ht, hzz⟩ := I4.tuple hb
    have hlen := r.length
    have bl := (back_vals r l u).length
    show wpAny (model X.prog X.w) X.A (PyProof.Rows.subscriptTail a (.Slice lo hi (some st) p2) (.ref b) (.ref s4.heap.objs.size)) (EP X pins σ Q) X.xe { s4 with heap := s4.heap.push { cls := .type "slice", data := .fields #[vl, vu, vst] } }
    refine PyProof.Rows.tail_any (ops := [.ref b, .ref s4.heap.objs.size]) ht.typeIs PyProof.Rows.slot_tuple_getitem.lookup ?_ (by with_unfolding_all rfl)
    refine HT.getItem_tuple_back ht (Heap.IsSliceOf.new ..) pl pu pst ?_ (by rw [← bl]; exact hz')
    exact ⟨.ref _, _, I4.laid (t' := s4.toks) (o := .tup (backV vs l u)) (fun b ob q => Heap.get?_push_of_some _ q) (Nat.le_refl _) ⟨hz', _, back_vals r l u, PyProof.Rows.IsTup.new _ _⟩, rfl, q4 _ (I4.hok.fresh (Nat.le_refl _))⟩⟩
  refine W.of pe (ha E _ fun v G1 H1 E1 g1 r1 => hl.wo E1 _ fun G2 H2 E2 g2 => hh.wo E2 _ fun G3 H3 E3 g3 => hs.wo E3 _ fun G4 H4 E4 g4 => ?_)
  cases dp_mono ((g2.trans g3).trans g4) _ r1 with
  | tup s r =>
    rename_i aa vs
    have rb := back_dd r l h
    refine ⟨_, vs, rfl, rfl, SqT.of (E4.s _ _ s), by rw [dpAll_len rb]; exact Nat.le_trans hz (by decide), fun p hp => ?_⟩
    have gw := Gw.new (o := .tup (backV vs l h)) E4.s hp
    exact q _ _ _ (E4.grow gw) ((((g1.trans g2).trans g3).trans g4).trans gw.g) (.tup upd_same (dpAll_mono gw.g _ rb))
/-! ### x.extend(t) -/
theorem list_extW (l : Addr) (items : Array Value) (n : Nat) (b : Addr) (items2 : Array Value) (n2 : Nat) (dd2 : Option Addr) (sl2 : Array (Option Value)) (hs0 : ¬(!items.isEmpty && Builtin.List.listTooLong (items.size + items2.size)) = true) (hs1 : items.size ≤ sizeLine) (hs2 : items.size + items2.size ≤ sizeLine + 1) :
    Meets (Builtin.«list.extend» ⟨[.ref l, .ref b], []⟩) (fun _ R s => s.heap.get? l = some { cls := .type "list", dict := none, data := .seq items n, slots := #[] } ∧ s.heap.get? b = some { cls := .type "tuple", dict := dd2, data := .seq items2 n2, slots := sl2 } ∧ R (.ok (.ret Value.none)) { s with heap := s.heap.update l (Obj.mapSeq fun x => x ++ items2), toks := s.toks }) :=
  .of_wp fun prog w A R s h => by
    obtain ⟨hp, g, d, tk, os⟩ := s; obtain ⟨hl, hb, h⟩ := h; have f1 := PySem.AutoSeq1.idx_int; have f2 := PySem.AutoSeq1.sub_tuple_tuple; have f3 := PySem.AutoSeq1.sub_list_list; have f4 := PySem.AutoSeq1.sub_tuple_list; have f5 := PySem.AutoSeq1.sub_list_tuple;
    have hz' : (items ++ items2).size ≤ sizeLine + 1 := by rw [Array.size_append]; exact hs2
    wp_walk using (wpAny_updateSeq hl rfl (hz := hs1) (_hz' := hz')), PySem.AutoSeq1.wpAny_loadPart' hl, PySem.AutoSeq1.wpAny_loadPart' hb; exact ⟨_, rfl, h⟩
theorem list_extWL (l : Addr) (items : Array Value) (n : Nat) (b : Addr) (items2 : Array Value) (n2 : Nat) (dd2 : Option Addr) (sl2 : Array (Option Value)) (hs0 : ¬(!items.isEmpty && Builtin.List.listTooLong (items.size + items2.size)) = true) (hs1 : items.size ≤ sizeLine) (hs2 : items.size + items2.size ≤ sizeLine + 1) :
    Meets (Builtin.«list.extend» ⟨[.ref l, .ref b], []⟩) (fun _ R s => s.heap.get? l = some { cls := .type "list", dict := none, data := .seq items n, slots := #[] } ∧ s.heap.get? b = some { cls := .type "list", dict := dd2, data := .seq items2 n2, slots := sl2 } ∧ R (.ok (.ret Value.none)) { s with heap := s.heap.update l (Obj.mapSeq fun x => x ++ items2), toks := s.toks }) :=
  .of_wp fun prog w A R s h => by
    obtain ⟨hp, g, d, tk, os⟩ := s; obtain ⟨hl, hb, h⟩ := h; have f1 := PySem.AutoSeq1.idx_int; have f2 := PySem.AutoSeq1.sub_tuple_tuple; have f3 := PySem.AutoSeq1.sub_list_list; have f4 := PySem.AutoSeq1.sub_tuple_list; have f5 := PySem.AutoSeq1.sub_list_tuple;
    have hz' : (items ++ items2).size ≤ sizeLine + 1 := by rw [Array.size_append]; exact hs2
    wp_walk using (wpAny_updateSeq hl rfl (hz := hs1) (_hz' := hz')), PySem.AutoSeq1.wpAny_loadPart' hl, PySem.AutoSeq1.wpAny_loadPart' hb; exact ⟨_, rfl, h⟩
def rExtS (K : PySem.W.Frag) : V → List V → Hp → VK → Prop := fun x vs H Q => ∃ l b xs zs, x = .ref l ∧ vs = [.ref b] ∧ H l = some (.lst xs) ∧ (SqT K H b zs ∨ SqL K H b zs) ∧ xs.length + zs.length ≤ sizeLine ∧ Q .non (upd H l (.lst (xs ++ zs)))
theorem mt_extS : MtM X "list.extend" (rExtS X.K) := by
  intro pins s σ H x vs v us Q I rx rv h
  obtain ⟨l, b, xs, zs, rfl, rfl, hH, hB, hz, q⟩ := h
  cases rx
  obtain ⟨u, rfl, ru⟩ := rv.one
  cases ru
  obtain ⟨z, its, n, r, hl, e⟩ := I.lstM hH
  rcases hB with hB | hB
  · obtain ⟨its2, r2, ht, z2⟩ := I.tuple hB
    have hl2 := r2.length
    obtain ⟨⟨cls2, dd2, data2, sl2⟩, ho2, hc2, n2, hd2⟩ := id ht
    simp only at hc2 hd2
    subst hc2 hd2
    have hsz : its.toArray.size + its2.toArray.size ≤ sizeLine := by rw [List.size_toArray, List.size_toArray]; omega
    have hlong : ¬ (!its.toArray.isEmpty && Builtin.List.listTooLong (its.toArray.size + its2.toArray.size)) = true := by
      rw [notLongL hsz, Bool.and_false]
      exact Bool.false_ne_true
    refine call_meets F.slot_list_extend ⟨_, e, rfl⟩ F.entry_list_extend (F.args_list_extend_2 _ _)
      (list_extW l its.toArray n b its2.toArray n2 dd2 sl2 hlong (by rw [List.size_toArray]; omega) (by omega)) ⟨e, ho2, ?_⟩
    refine ⟨.non, _, I.lset (its' := its ++ its2) hH e (by simp) (r.append r2) ?_, rfl, q⟩
    rw [List.length_append]
    omega
  · obtain ⟨its2, r2, ⟨⟨cls2, dd2, data2, sl2⟩, n2, ho2, hc2, hdd, hd2⟩, z2⟩ := I.list hB
    have hl2 := r2.length
    simp only at hc2 hd2
    subst hc2 hd2
    have hsz : its.toArray.size + its2.toArray.size ≤ sizeLine := by rw [List.size_toArray, List.size_toArray]; omega
    have hlong : ¬ (!its.toArray.isEmpty && Builtin.List.listTooLong (its.toArray.size + its2.toArray.size)) = true := by
      rw [notLongL hsz, Bool.and_false]
      exact Bool.false_ne_true
    refine call_meets F.slot_list_extend ⟨_, e, rfl⟩ F.entry_list_extend (F.args_list_extend_2 _ _)
      (list_extWL l its.toArray n b its2.toArray n2 dd2 sl2 hlong (by rw [List.size_toArray]; omega) (by omega)) ⟨e, ho2, ?_⟩
    refine ⟨.non, _, I.lset (its' := its ++ its2) hH e (by simp) (r.append r2) ?_, rfl, q⟩
    rw [List.length_append]
    omega
theorem bm_ext {v : Expr} (hs : notStar v = true) (hl : (p2.endLine == p3.line) = true) {te : TE} (h : PE X (.Name x p) te) : PE X (.Call (.Attribute (.Name x p) "extend" p2) [v] [] p3) (tBM X.K "list" (rExtS X.K) te (WA X [v])) := by
  have e := notStar_ea (env := X.env) (es := []) hs
  exact pe_bm PySem.F.plainAttrs_list PySem.F.slot_list_extend PySem.F.type_list_extend mt_extS h pa_W rfl (by rw [e]; rfl) hl e rfl
theorem st_extV {zs : List PyData} (hN : X.N[i]? = some x) (h0 : s0[i]? = some (.l xs)) (hb : Ev X b s0 s1 d) (hd2 : d = .tuple zs ∨ d = .list zs) (h1 : s1[i]? = some (.l ys)) (hl : ys.length + zs.length ≤ 100000) (hv : Vis X.env.scope x) (hd : (x == ("__debug__" : Str)) = false) (hcd : (x == ("__classdict__" : Str)) = false)
    (hst : notStar b = true) (hln : (p2.endLine == p3.line) = true) : St1 X (.Expr (.Call (.Attribute (.Name x p) "extend" p2) [b] [] p3) pos) s0 (.nx (s1.set i (.l (ys ++ zs)))) := .mk fun {G₀ H₀ G H σ} E D k => by
  obtain ⟨l, vs0, hσ, _, _, hl0, _⟩ := E.getL h0
  refine WS.of (ps_expr (bm_ext hst hln (pe_var hN hv hd hcd)) rfl) ⟨_, hσ, .inl ⟨rfl, _, SqL.of hl0⟩, ?_⟩
  refine (ea_cons hb ea_nil (notStar_ea hst)) E _ fun us G1 H1 E1 g1 r1 => ?_
  cases r1 with
  | cons r1 rr =>
    cases rr
    obtain ⟨l', vs, hσ', gn, _, hl', r⟩ := E1.getL h1
    rw [hσ] at hσ'
    cases hσ'
    rcases hd2 with rfl | rfl
    · cases r1 with
      | tup s2 a2 =>
        refine ⟨l, _, vs, _, rfl, rfl, hl', .inl (SqT.of (E1.s _ _ s2)), ?_, ?_⟩
        · rw [dpAll_len r, dpAll_len a2]; exact Nat.le_trans hl (by decide)
        · exact k σ G1 _ (E1.putL h1 hσ (dpAll_app r a2)) g1
    · cases r1 with
      | lst s2 a2 =>
        refine ⟨l, _, vs, _, rfl, rfl, hl', .inr (ex_l E1.s s2), ?_, ?_⟩
        · rw [dpAll_len r, dpAll_len a2]; exact Nat.le_trans hl (by decide)
        · exact k σ G1 _ (E1.putL h1 hσ (dpAll_app r a2)) g1
/-! ### type(x) not in (T, S) -/
theorem eqAt_ty {A : Around} {s : Shared} {S T : String} (hS : S ∈ tyL) (hT : T ∈ tyL) : SeqAt.EqAt A s (.type S) (.type T) (decide (S = T)) := by
  by_cases e : S = T
  · subst e
    simp only [decide_true]
    exact SeqAt.EqAt.same _
  · simp only [e, decide_false]
    intro prog w E Q h
    unfold eqBool
    refine wpAny_holding ?_
    refine wpAny_ite_split (fun hab => absurd hab (by rw [type_beq e]; decide)) (fun _ => ?_)
    exact wpAny_bind (TypeEq.eq_type_other (ty_meta hS) (ty_meta hT) (type_beq e) (wpAny_truthy_bool h))
def rTyIn (K : PySem.W.Frag) (ne : Bool) : R2 := fun x y H Q => ∃ (S : String) (p : Addr) (Ts : List String), x = .ty S ∧ y = .ref p ∧ SqT K H p (Ts.map V.ty) ∧ S ∈ tyL ∧ (∀ T ∈ Ts, T ∈ tyL) ∧ Q (.bl (negIf ne (Ts.any fun T => decide (T = S)))) H
theorem tys_vals : ∀ {Ts : List String} {us : List Value}, Vals (Ts.map V.ty) us → us = Ts.map Value.type
  | [], us, h => by cases h; rfl
  | T :: Ts, us, h => by
    cases h with
    | cons a b => cases a; rw [tys_vals b]; rfl
theorem op_tyIn {ne : Bool} : OpR X (compareOp (if ne = true then .NotIn else .In)) (rTyIn X.K ne) := by
  intro pins s σ H x y v u Q I rx ry h
  obtain ⟨S, p, Ts, rfl, rfl, hq, hS, hT, q⟩ := h
  cases rx
  cases ry
  obtain ⟨its, r, pl, hz⟩ := I.tuple hq
  have e := tys_vals r
  subst e
  have ev : ∀ y, y ∈ (Ts.map Value.type).toArray → SeqAt.EqAt X.A.in1 s y (.type S) ((fun v => v == .type S) y) := by
    intro y hy
    obtain ⟨T, hT1, rfl⟩ := List.mem_map.mp (by simpa using hy : y ∈ Ts.map Value.type)
    have := eqAt_ty (A := X.A.in1) (s := s) (hT T hT1) hS
    have e2 : (Value.type T == Value.type S) = decide (T = S) := by
      by_cases e : T = S
      · subst e; simp
      · rw [type_beq e]; simp [e]
    show SeqAt.EqAt X.A.in1 s (.type T) (.type S) (Value.type T == Value.type S)
    rw [e2]; exact this
  have ea : ((Ts.map Value.type).toArray.any fun v => v == Value.type S) = Ts.any fun T => decide (T = S) := by
    rw [List.any_toArray, List.any_map]
    congr 1
    funext T
    show (Value.type T == Value.type S) = decide (T = S)
    by_cases e : T = S
    · subst e; simp
    · rw [type_beq e]; simp [e]
  cases ne with
  | true => exact SeqAt.notIn_tupleAt (fun v => v == .type S) pl ev ⟨.bl _, H, I, rfl, by rw [ea]; exact q⟩
  | false => exact SeqAt.in_tupleAt (fun v => v == .type S) pl ev ⟨.bl _, H, I, rfl, by rw [ea]; exact q⟩
/-- type(e) in (T, S), not in -/
theorem ec_tyIn {ne : Bool} {n1 n2 : Str} {T1 T2 : String} {pn1 pn2 pt : Pos} {kt : Nat} (h : Ev X e s0 s1 d) (hm : X.mg "type" = none) (hg : Gl X "type") (he : notStar e = true)
    (m1 : X.mg n1 = none) (g1 : Gl X n1) (v1 : bootBuiltins n1 = some (.type T1)) (t1 : T1 ∈ tyL) (o1 : n1 ≠ "__name__") (d1 : (n1 == ("__debug__" : Str)) = false)
    (m2 : X.mg n2 = none) (g2 : Gl X n2) (v2 : bootBuiltins n2 = some (.type T2)) (t2 : T2 ∈ tyL) (o2 : n2 ≠ "__name__") (d2 : (n2 == ("__debug__" : Str)) = false) :
    Ev X (.Compare (.Call (.Name "type" p) [e] [] p2) [if ne = true then .NotIn else .In] [.Tuple [.Name n1 pn1, .Name n2 pn2] kt pt] pos) s0 s1 (.bool (negIf ne (decide (T1 = tyD d) || decide (T2 = tyD d)))) ∧
    EvT X (.Compare (.Call (.Name "type" p) [e] [] p2) [if ne = true then .NotIn else .In] [.Tuple [.Name n1 pn1, .Name n2 pn2] kt pt] pos) s0 s1 (negIf ne (decide (T1 = tyD d) || decide (T2 = tyD d))) := by
  have e : ([T1, T2].any fun T => decide (T = tyD d)) = (decide (T1 = tyD d) || decide (T2 = tyD d)) := by simp
  have ht : ∀ T ∈ [T1, T2], T ∈ tyL := fun T hT => by
    rcases List.mem_cons.mp hT with rfl | hT
    · exact t1
    · rw [List.mem_singleton.mp hT]; exact t2
  refine ⟨.mk fun {G₀ H₀ G H σ} E Q q =>
    W.of (pe_cmpR op_tyIn (pe_callTy call_tyD hg hm (by decide +kernel) (pa_cons pe_W pa_nil (notStar_ea he)) (by decide) (by decide) (notStar_ea he) rfl) (pe_tup (pa_cons (pe_bltn (v := .ty T1) g1 m1 v1 rfl o1 d1) (pa_cons (pe_bltn (v := .ty T2) g2 m2 v2 rfl o2 d2) pa_nil))) rfl)
    (h E _ fun v G' H' E' g r => ⟨v, d, rfl, dp_mono E'.s d r, Nat.le_trans (show 2 ≤ 1000 by decide) (by decide), fun p hp => ⟨tyD d, p, [T1, T2], rfl, rfl, SqT.of upd_same, ty_in d, ht, by
      have gw := Gw.new (o := .tup [V.ty T1, V.ty T2]) E'.s hp
      rw [e]
      exact q _ _ _ (E'.grow gw) (g.trans gw.g) (.bl _)⟩⟩),
    .mk fun {G₀ H₀ G H σ} E Q q =>
    WT.of (pt_cmpR op_tyIn (pe_callTy call_tyD hg hm (by decide +kernel) (pa_cons pe_W pa_nil (notStar_ea he)) (by decide) (by decide) (notStar_ea he) rfl) (pe_tup (pa_cons (pe_bltn (v := .ty T1) g1 m1 v1 rfl o1 d1) (pa_cons (pe_bltn (v := .ty T2) g2 m2 v2 rfl o2 d2) pa_nil))) rfl)
    (h E _ fun v G' H' E' g r => ⟨v, d, rfl, dp_mono E'.s d r, Nat.le_trans (show 2 ≤ 1000 by decide) (by decide), fun p hp => ⟨tyD d, p, [T1, T2], rfl, rfl, SqT.of upd_same, ty_in d, ht, _, rfl, by
      have gw := Gw.new (o := .tup [V.ty T1, V.ty T2]) E'.s hp
      rw [e]
      exact q _ _ (E'.grow gw) (g.trans gw.g)⟩⟩)⟩
end
end Ewl
-- RS3
set_option Elab.async false
set_option linter.all false
set_option maxRecDepth 100000
set_option maxHeartbeats 4000000
/-! zip of two lists or two tuples, of any lengths. -/
namespace Ewl
open PySem L2 RZ
section
variable {X : Cx} {e e2 : Expr} {s0 s1 : List Sl} {ds es : List PyData} {pos p tpos : Pos} {elts : List Expr} {kk : Nat}
theorem yl_zipA {K : PySem.W.Frag} {G : Hp} {a b : Addr} {ds es : List PyData} (h : Dd K G (.ref a) (.tuple ds)) (h' : Dd K G (.ref b) (.tuple es)) : Yl K G (ItzT K a b) (zipD ds es) := by
  intro i G1 H1 e1 e2
  rw [zipD_len]
  cases h with
  | tup s r =>
    cases h' with
    | tup s' r' =>
      have s1 : SqT K H1 a _ := SqT.of ((e1.trans e2) _ _ s)
      have s2 : SqT K H1 b _ := SqT.of ((e1.trans e2) _ _ s')
      refine ⟨fun hi => ?_, fun hi => ⟨_, _, s1, s2, ?_⟩⟩
      · have hi1 : i < ds.length := by omega
        have hi2 : i < es.length := by omega
        obtain ⟨v, h1, h2⟩ := dpAll_get r (show ds[i]? = some ds[i] by simp [hi1])
        obtain ⟨v', h1', h2'⟩ := dpAll_get r' (show es[i]? = some es[i] by simp [hi2])
        refine ⟨⟨_, _, v, v', s1, s2, h1, h1'⟩, fun x H2 y => ?_⟩
        obtain ⟨T, x, x', rfl, hT, rfl, y, y'⟩ := y
        have e := y _ s1
        have e' := y' _ s2
        rw [h1] at e; cases e
        rw [h1'] at e'; cases e'
        have gw := Gw.new (o := .tup [v, v']) e2 hT
        exact ⟨_, _, zipD_get (show ds[i]? = some ds[i] by simp [hi1]) (show es[i]? = some es[i] by simp [hi2]), gw, .tup upd_same (.cons (dp_mono (e1.trans gw.g) _ h2) (.cons (dp_mono (e1.trans gw.g) _ h2') .nil))⟩
      · rw [dpAll_len r, dpAll_len r']; omega
theorem yl_zipL {K : PySem.W.Frag} {G : Hp} {a b : Addr} {ds es : List PyData} (h : Dd K G (.ref a) (.list ds)) (h' : Dd K G (.ref b) (.list es)) : Yl K G (Itz K a b) (zipD ds es) := by
  intro i G1 H1 e1 e2
  rw [zipD_len]
  cases h with
  | lst s r =>
    cases h' with
    | lst s' r' =>
      have s1 := ex_l (e1.trans e2) s
      have s2 := ex_l (e1.trans e2) s'
      refine ⟨fun hi => ?_, fun hi => ⟨_, _, s1, s2, ?_⟩⟩
      · have hi1 : i < ds.length := by omega
        have hi2 : i < es.length := by omega
        obtain ⟨v, h1, h2⟩ := dpAll_get r (show ds[i]? = some ds[i] by simp [hi1])
        obtain ⟨v', h1', h2'⟩ := dpAll_get r' (show es[i]? = some es[i] by simp [hi2])
        refine ⟨⟨_, _, v, v', s1, s2, h1, h1'⟩, fun x H2 y => ?_⟩
        obtain ⟨T, x, x', rfl, hT, rfl, y, y'⟩ := y
        have e := y _ s1
        have e' := y' _ s2
        rw [h1] at e; cases e
        rw [h1'] at e'; cases e'
        have gw := Gw.new (o := .tup [v, v']) e2 hT
        exact ⟨_, _, zipD_get (show ds[i]? = some ds[i] by simp [hi1]) (show es[i]? = some es[i] by simp [hi2]), gw, .tup upd_same (.cons (dp_mono (e1.trans gw.g) _ h2) (.cons (dp_mono (e1.trans gw.g) _ h2') .nil))⟩
      · rw [dpAll_len r, dpAll_len r']; omega
theorem ei_zipA {z1 z2 : PyData} (ha : EvA X [e, e2] s0 s1 [z1, z2]) (hz : (z1 = .tuple ds ∧ z2 = .tuple es) ∨ (z1 = .list ds ∧ z2 = .list es)) (hm : X.mg "zip" = none) (hg : Gl X "zip") (hs : starEach [e, e2] X.env = (false, eval e X.env) :: starEach [e2] X.env) (hpl : (backTo pos (starEach [e2] X.env)).any (·.1) = false) :
    EvI X (.Tuple elts kk tpos) (.Call (.Name "zip" p) [e, e2] [] pos) s0 s1 (zipD ds es) := .mk fun E R q =>
  WI.of (pi_zipA hg hm pa_W hs hpl) (ha E _ fun vs G' H' E' g r => by
    cases r with
    | cons r1 r2 =>
      cases r2 with
      | cons r2 r3 =>
        cases r3
        rcases hz with ⟨rfl, rfl⟩ | ⟨rfl, rfl⟩
        · cases r1 with
          | tup s a =>
            cases r2 with
            | tup s' a' => exact ⟨_, _, _, _, rfl, .inr ⟨SqT.of (E'.s _ _ s), SqT.of (E'.s _ _ s'), q _ G' H' E' g (yl_zipA (.tup s a) (.tup s' a'))⟩⟩
        · cases r1 with
          | lst s a =>
            cases r2 with
            | lst s' a' => exact ⟨_, _, _, _, rfl, .inl ⟨ex_l E'.s s, ex_l E'.s s', q _ G' H' E' g (yl_zipL (.lst s a) (.lst s' a'))⟩⟩)
end
end Ewl
-- RD8
set_option Elab.async false
set_option linter.all false
set_option maxRecDepth 100000
set_option maxHeartbeats 8000000
namespace Ewl
open PySem L2
section
variable {tb : List Fk} {gi : List (Str × Int)}
theorem setS_ok {s t : Sls} {i : Nat} {v : Sl} (h : setS s i v = .ok t) : i < s.length ∧ t = s.set i v := by
  unfold setS at h
  split at h
  · rename_i c; cases h; exact ⟨c, rfl⟩
  · cases h
theorem intD_ok {d : PyData} {i : Int} (h : intD d = .ok i) : d = .int i := by cases d <;> cases h <;> rfl
theorem boolD_ok {d : PyData} {i : Bool} (h : boolD d = .ok i) : d = .bool i := by cases d <;> cases h <;> rfl
theorem listD_ok {d : PyData} {i : List PyData} (h : listD d = .ok i) : d = .list i := by cases d <;> cases h <;> rfl
theorem tupD_ok {d : PyData} {i : List PyData} (h : tupD d = .ok i) : d = .tuple i := by cases d <;> cases h <;> rfl
theorem rdL_ok {s : Sls} {i : Nat} {xs : List PyData} (h : rdL s i = .ok xs) : s[i]? = some (.l xs) := by
  unfold rdL at h; split at h
  · rename_i e; cases h; exact e
  · cases h
theorem rdLL_ok {s : Sls} {i : Nat} {xs : List (List PyData)} (h : rdLL s i = .ok xs) : s[i]? = some (.ll xs) := by
  unfold rdLL at h; split at h
  · rename_i e; cases h; exact e
  · cases h
theorem rdK_ok {s : Sls} {i : Nat} {w : Option Addr × List (Key × PyData)} (h : rdK s i = .ok w) : s[i]? = some (.dk w.1 w.2) := by
  unfold rdK at h; split at h
  · rename_i e; cases h; exact e
  · cases h
theorem rdT_ok {s : Sls} {i : Nat} {xs : List (List Key × PyData)} (h : rdT s i = .ok xs) : s[i]? = some (.dt xs) := by
  unfold rdT at h; split at h
  · rename_i e; cases h; exact e
  · cases h
theorem here_ok {α : Type} {s : Sls} {o : Oc α} {a : α} (h : o.here s = .ok a) : o = .ok a := by
  cases o <;> cases h <;> rfl
/-- a name read as data -/
theorem rdS_ok {X : Cx} {s s' : Sls} {i : Nat} {d : PyData} {x : Str} {p : Pos} (h : rdS s i = .ok (s', d)) (hN : X.N[i]? = some x) (hv : Vis X.env.scope x) (hd : (x == ("__debug__" : Str)) = false) (hcd : (x == ("__classdict__" : Str)) = false) : Ev X (.Name x p) s s' d := by
  have hlt : ∀ {u : Sl}, s[i]? = some u → i < s.length := fun e => (List.getElem?_eq_some_iff.mp e).1
  unfold rdS at h
  split at h
  · rename_i e; cases h; exact ev_var e hN hv hd hcd
  · rename_i e; cases h; exact ev_frz e (ev_var (List.getElem?_set_self (hlt e)) hN hv hd hcd)
  · rename_i e; cases h; exact ev_frzLL e (ev_var (List.getElem?_set_self (hlt e)) hN hv hd hcd)
  · rename_i e; cases h; exact ev_frzK e (ev_var (List.getElem?_set_self (hlt e)) hN hv hd hcd)
  · rename_i e; cases h; exact ev_frzT e (ev_var (List.getElem?_set_self (hlt e)) hN hv hd hcd)
  · cases h
theorem innD_c {X : Cx} {ne : Bool} {a b : Expr} {s0 s1 s2 : Sls} {d e : PyData} {z : Bool} {pos : Pos} (h : innD d e = .ok z) (ha : Ev X a s0 s1 d) (hb : Ev X b s1 s2 e) (hu : X.A.units + 1 < cLine) (hm : ∀ op, behindInMarks op b = false) :
    Ev X (.Compare a [if ne = true then .NotIn else .In] [b] pos) s0 s2 (.bool (negIf ne z)) ∧ EvT X (.Compare a [if ne = true then .NotIn else .In] [b] pos) s0 s2 (negIf ne z) := by
  unfold innD at h
  split at h
  · rename_i kvs k e1 e2
    cases h
    have e3 := dictV_k e1
    have e4 := kyD_of e2
    subst e3 e4
    exact ec_in ha hb hu hm
  · rename_i kvs k e1 e2
    cases h
    have e3 := dictV_t e1
    have e4 := tkey_of e2
    subst e3 e4
    exact ec_inT ha hb hu hm
  · cases h
theorem ixD_c {X : Cx} {a b : Expr} {s0 s1 s2 : Sls} {d e z : PyData} {pos : Pos} (h : ixD d e = .ok z) (ha : Ev X a s0 s1 d) (hb : Ev X b s1 s2 e) (hu : X.A.units + 1 < cLine) (hs : notSlice b = true) : Ev X (.Subscript a b pos) s0 s2 z := by
  unfold ixD at h
  split at h
  · exact ev_ix ix_list ha hb (rd_ixL (ofO_ok h)) (notSlice_ix hs)
  · exact ev_ix ix_tup ha hb (rd_ixT (ofO_ok h)) (notSlice_ix hs)
  · split at h
    · rename_i kvs k e1 e2
      have e3 := dictV_k e1
      have e4 := kyD_of e2
      subst e3 e4
      exact ev_dget ha hb (ofO_ok h) hu (notSlice_no hs)
    · rename_i kvs k e1 e2
      have e3 := dictV_t e1
      have e4 := tkey_of e2
      subst e3 e4
      exact ev_dgetT ha hb (ofO_ok h) hu (notSlice_no hs)
    · cases h
theorem ownN_snd {N : List Str} {own : List Nat} (h : ((ownN N own).map (·.2) == own) = true) : (ownN N own).map (·.2) = own := eq_of_beq h

mutual
theorem sG : ∀ (g : G) {X : Cx} {c : Ck} (_ : Good X c tb gi) {x : Expr} (_ : chkG c g x = true) {s s' : Sls} {d : PyData} (_ : denG g s d = .ok s'), Tg X x s d s' (tsG g)
  | .nm i, X, c, hg, x, hc, s, s', d, h => by
    unfold chkG at hc
    split at hc
    · obtain ⟨a, b, f⟩ := hg.lo hc
      obtain ⟨hl, rfl⟩ := setS_ok h
      exact tg_name a hl hg.nd b f
    · cases hc
  | .tup gs, X, c, hg, x, hc, s, s', d, h => by
    unfold chkG at hc
    split at hc
    · obtain ⟨ds, h1, h2⟩ := Oc.bind_eq_ok (show (tupD d >>= fun ds => denGs gs s ds) = .ok s' from h)
      have e := tupD_ok h1
      subst e
      obtain ⟨t, l, f⟩ := sGs gs hg hc h2
      exact tg_tup t hg.calm l f
    · cases hc
theorem sGs : ∀ (gs : Gs) {X : Cx} {c : Ck} (_ : Good X c tb gi) {xs : List Expr} (_ : chkGs c gs xs = true) {s s' : Sls} {ds : List PyData} (_ : denGs gs s ds = .ok s'), Tgs X xs s ds s' (tsGs gs) ∧ (assignEach xs X.env).length = ds.length ∧ (assignEach xs X.env).findIdx? (·.1) = none
  | .nil, X, c, hg, xs, hc, s, s', ds, h => by
    unfold chkGs at hc
    cases xs with
    | nil =>
      cases ds with
      | nil => cases h; exact ⟨tgs_nil, rfl, rfl⟩
      | cons _ _ => cases h
    | cons _ _ => cases hc
  | .cons g gs, X, c, hg, xs, hc, s, s', ds, h => by
    unfold chkGs at hc
    cases xs with
    | nil => cases hc
    | cons x xs =>
      simp only [Bool.and_eq_true] at hc
      cases ds with
      | nil => cases h
      | cons d ds =>
        obtain ⟨s1, h1, h2⟩ := Oc.bind_eq_ok (show (denG g s d >>= fun s1 => denGs gs s1 ds) = .ok s' from h)
        have t1 := sG g hg hc.2.1 h1
        obtain ⟨t2, l, f⟩ := sGs gs hg hc.2.2 h2
        have ea := notStar_ae (es := xs) (env := X.env) hc.1
        refine ⟨tgs_cons t1 t2 (by rw [ea]; rfl), by rw [ea]; simp [l], ?_⟩
        rw [ea, List.findIdx?_cons]
        simp only [Bool.false_eq_true, if_false, f]
        rfl
end
theorem isIntC_of {n : Int} {x : Expr} (h : isIntC n x = true) : ∃ k p, x = .Constant (.int n) k p := by
  unfold isIntC at h
  split at h
  · have := eq_of_beq h; subst this; exact ⟨_, _, rfl⟩
  · cases h
theorem len_ok {X : Cx} {s : Sls} {i : Nat} {z : PyData} {x : Str} {p p2 p3 : Pos} (h : lenS s i = .ok z) (hN : X.N[i]? = some x) (hv : Vis X.env.scope x) (hd : (x == ("__debug__" : Str)) = false) (hcd : (x == ("__classdict__" : Str)) = false) (hm : X.mg "len" = none) (hg : Gl X "len") : Ev X (.Call (.Name "len" p2) [.Name x p] [] p3) s s z := by
  unfold lenS at h
  split at h
  · rename_i e; cases h; exact ev_lenO hN e hm hg hv hd hcd
  · rename_i d e
    unfold lenD at h
    split at h
    · cases h; exact ev_callB call_len_seq (ea_cons (ev_var e hN hv hd hcd) ea_nil) rc_lenL hm hg PySem.boot_len (by decide) (by decide)
    · cases h; exact ev_callB call_len_seq (ea_cons (ev_var e hN hv hd hcd) ea_nil) rc_lenT hm hg PySem.boot_len (by decide) (by decide)
    · cases h
  · cases h
end
end Ewl
-- RD9
set_option Elab.async false
set_option linter.all false
set_option maxRecDepth 100000
set_option maxHeartbeats 8000000
namespace Ewl
open PySem L2
section
variable {X : Cx} {e : Expr} {es : List Expr} {s0 s1 s2 : List Sl} {d z : PyData} {ds : List PyData} {pos p : Pos} {i k : Nat} {x y : Str}
theorem pe_callR {sp : Sp} (F : FnR X.prog X.w X.K X.mg X.base x k sp) (hr : Room k X.A) (hG : X.A.guards = some []) (hgl : Gl X x) (hdb : (x == ("__debug__" : Str)) = false) {ta : TA} (ha : PA X (e :: es) ta)
    (he : starEach (e :: es) X.env = (false, eval e X.env) :: starEach es X.env) (hpl : (backTo pos (starEach es X.env)).any (·.1) = false) : PE X (.Call (.Name x p) (e :: es) [] pos) (fun σ H Q => ta σ H fun vs H1 => sp vs H1 Q fun _ _ _ => False) := by
  obtain ⟨f, fd, ps, hm, hk, hf, hb⟩ := F.ex
  exact ⟨fun pins s σ H Q I h => by
    refine wpAny_Call_Name_kw (ld_glob I hgl hm ?_ hdb)
    refine PySem.W.callWith_K (h₀ := X.base) I.ok.mod.kin hk (thn (ha.run pos pins s σ H _ I h) fun us s1 ⟨vs, H1, I1, r, q⟩ => ⟨I1.kIn, ?_⟩) he hpl
    exact run_at (hf X.A hG hr) hb I1 r q⟩
theorem ev_callSR {g : List (Key × PyData) → List PyData → List (Key × PyData) → PyData → Prop} {py : Pos} {o o' : Option Addr} {kvs0 kvs kvs' : List (Key × PyData)} (F : FnR X.prog X.w X.K X.mg X.base x k (spS X.K g)) (hr : Room k X.A) (hG : X.A.guards = some [])
    (hs0 : s0[i]? = some (.dk o' kvs0)) (ha : EvA X es s0 s1 ds) (hs : s1[i]? = some (.dk o kvs)) (hg : g kvs ds kvs' z) (hN : X.N[i]? = some y) (hv : Vis X.env.scope y) (hd : (y == ("__debug__" : Str)) = false) (hcd : (y == ("__classdict__" : Str)) = false) (hgl : Gl X x) (hdb : (x == ("__debug__" : Str)) = false)
    (hpl : (backTo pos (starEach es X.env)).any (·.1) = false) : Ev X (.Call (.Name x p) (.Name y py :: es) [] pos) s0 (s1.set i (.dk o kvs')) z := .mk fun {G₀ H₀ G H σ} E Q q => by
  obtain ⟨a, ps0, hσ, _⟩ := E.getK hs0
  refine W.of (pe_callR F hr hG hgl hdb (pa_cons (pe_var hN hv hd hcd) pa_W rfl) rfl hpl) ?_
  refine ⟨.ref a, hσ, ?_⟩
  refine ha E _ fun vs G1 H1 E1 g1 r1 => ?_
  obtain ⟨a', ps1, hσ', eo, gn, h0, ha1, rk⟩ := E1.getK hs
  rw [hσ] at hσ'
  cases hσ'
  refine ⟨G1, a, vs, ps1, kvs, ds, kvs', z, rfl, E1.s, gn, ha1, rk, r1, hg, fun v G2 H2 ps2 g2 s2 k1 k2 n2 h2 rk2 rz => ?_⟩
  exact q v G2 H2 (E1.putK hs hσ g2 s2 k1 k2 n2 h2 rk2) (g1.trans g2) rz
theorem st_asgKR {g : List PyData → List (Key × PyData) → Prop} {py sp' : Pos} {kvs : List (Key × PyData)} (F : FnR X.prog X.w X.K X.mg X.base x k (spK X.K g)) (hr : Room k X.A) (hG : X.A.guards = some []) (ha : EvA X (e :: es) s0 s1 ds) (hg : g ds kvs) (hi : X.N[i]? = some y) (hl : i < s1.length) (hN : X.N.Nodup)
    (hx : Loc X.env.scope y) (hgl : Gl X x) (hdb : (x == ("__debug__" : Str)) = false)
    (he : starEach (e :: es) X.env = (false, eval e X.env) :: starEach es X.env) (hpl : (backTo pos (starEach es X.env)).any (·.1) = false)
    (hf : X.fn y = true ∨ X.env.scope.names.lookup y = some .local) : St1 X (.Assign [.Name y py] (.Call (.Name x p) (e :: es) [] pos) sp') s0 (.nx (s1.set i (.dk none kvs))) := .mk fun E D kk => by
  refine WS.of (ps_set hN hi hx (pe_callR F hr hG hgl hdb pa_W he hpl) rfl hf) (ha E _ fun vs G1 H1 E1 g1 r1 => ?_)
  refine ⟨G1, ds, kvs, E1.s, r1, hg, fun a ps2 G2 H2 g2 ha2 r2 => ?_⟩
  exact kk _ G2 _ ((E1.grow g2).setK hl ha2 r2) (g1.trans g2.g)
end
theorem notCall_ab {e : Expr} {m : Str} {env : Env} {w : Sem Value} (h : notCall e = true) : attributeBase e m env w = w := by
  unfold attributeBase
  split
  · rename_i f p q
    have h : (f == ("super" : Str)) = false := by simpa [notCall] using h
    have h2 : (f != ("super" : Str)) = true := by rw [bne, h]; rfl
    simp only [h2, Bool.true_or, if_true]
  · rfl
theorem boot_ty {t : String} (h : t ∈ tyN) : t ∈ tyL ∧ bootBuiltins (Str.ofString t) = some (.type t) := by
  unfold tyN at h
  simp only [List.mem_cons, List.not_mem_nil, or_false] at h
  rcases h with rfl | rfl | rfl | rfl | rfl | rfl <;> exact ⟨by decide, by decide +kernel⟩
theorem cmpAny {X : Cx} (hu : X.A.units + 64 < cLine) (o : Cmp) : ∃ r, OpR X (compareOp (cmpO o)) r := by
  cases o
  · exact ⟨_, op_eqD hu⟩
  · exact ⟨_, op_neD hu⟩
  · exact ⟨_, op_lt⟩
  · exact ⟨_, op_le⟩
  · exact ⟨_, op_gt⟩
  · exact ⟨_, op_ge⟩
  · exact ⟨_, op_isN⟩
  · exact ⟨_, op_notN⟩
theorem wipeS_eq {s t : Sls} {vs : List Nat} (hl : s.length = t.length) (h : ∀ j : Nat, j ∉ vs → s[j]? = t[j]?) : wipeS s vs = wipeS t vs := by
  refine List.ext_getElem? fun j => ?_
  by_cases hj : j ∈ vs
  · have l1 := wipeS_len s vs
    have l2 := wipeS_len t vs
    rcases wipeS_in s hj with a | a <;> rcases wipeS_in t hj with b | b
    · rw [a, b]
    · have := (List.getElem?_eq_some_iff.mp a).1
      rw [List.getElem?_eq_none_iff] at b
      omega
    · have := (List.getElem?_eq_some_iff.mp b).1
      rw [List.getElem?_eq_none_iff] at a
      omega
    · rw [a, b]
  · rw [wipeS_out s hj, wipeS_out t hj]; exact h j hj
mutual
theorem denG_out : ∀ (g : G) {s t : Sls} {d : PyData}, denG g s d = .ok t → t.length = s.length ∧ ∀ j : Nat, j ∉ tsG g → t[j]? = s[j]?
  | .nm i, s, t, d, h => by
    obtain ⟨hl, rfl⟩ := setS_ok h
    refine ⟨by simp, fun j hj => List.getElem?_set_ne fun e => hj ?_⟩
    simp [tsG, e]
  | .tup gs, s, t, d, h => by
    obtain ⟨ds, h1, h2⟩ := Oc.bind_eq_ok (show (tupD d >>= fun ds => denGs gs s ds) = .ok t from h)
    exact denGs_out gs h2
theorem denGs_out : ∀ (gs : Gs) {s t : Sls} {ds : List PyData}, denGs gs s ds = .ok t → t.length = s.length ∧ ∀ j : Nat, j ∉ tsGs gs → t[j]? = s[j]?
  | .nil, s, t, ds, h => by
    cases ds with
    | nil => cases h; exact ⟨rfl, fun _ _ => rfl⟩
    | cons _ _ => cases h
  | .cons g gs, s, t, ds, h => by
    cases ds with
    | nil => cases h
    | cons d ds =>
      obtain ⟨s1, h1, h2⟩ := Oc.bind_eq_ok (show (denG g s d >>= fun s1 => denGs gs s1 ds) = .ok t from h)
      obtain ⟨a, b⟩ := denG_out g h1
      obtain ⟨a', b'⟩ := denGs_out gs h2
      refine ⟨a'.trans a, fun j hj => ?_⟩
      rw [tsGs, List.mem_append, not_or] at hj
      rw [b' j hj.2, b j hj.1]
end
section
variable {tb : List Fk} {gi : List (Str × Int)}
theorem callD_ok {X : Cx} {c : Ck} (g : Good X c tb gi) {k : Nat} {ds : List PyData} {z : PyData} {x : Str} (h : callD tb k ds = .ok z) (hx : c.fs[k]? = some x) : ∃ (f : List PyData → Oc PyData) (j : Nat), f ds = .ok z ∧ Room j X.A ∧ FnR X.prog X.w X.K X.mg X.base x j (spD X.K fun ds z => f ds = .ok z) := by
  unfold callD at h
  split at h
  · rename_i f e
    obtain ⟨j, r, F⟩ := g.fns k x _ hx e
    exact ⟨f, j, h, r, F⟩
  · cases h
theorem callSD_ok {X : Cx} {c : Ck} (g : Good X c tb gi) {k : Nat} {kvs : List (Key × PyData)} {ds : List PyData} {z : List (Key × PyData) × PyData} {x : Str} (h : callSD tb k kvs ds = .ok z) (hx : c.fs[k]? = some x) : ∃ (f : Addr → List (Key × PyData) → List PyData → Oc (List (Key × PyData) × PyData)) (j : Nat), (∀ p, f p kvs ds = .ok z) ∧ Room j X.A ∧ FnR X.prog X.w X.K X.mg X.base x j (spS X.K fun kvs ds kvs' z => ∀ p, f p kvs ds = .ok (kvs', z)) := by
  unfold callSD at h
  split at h
  · rename_i f e
    obtain ⟨j, r, F⟩ := g.fns k x _ hx e
    exact ⟨f, j, of_atAll h, r, F⟩
  · cases h
theorem callKD_ok {X : Cx} {c : Ck} (g : Good X c tb gi) {k : Nat} {ds : List PyData} {z : List (Key × PyData)} {x : Str} (h : callKD tb k ds = .ok z) (hx : c.fs[k]? = some x) : ∃ (f : List PyData → Oc (List (Key × PyData))) (j : Nat), f ds = .ok z ∧ Room j X.A ∧ FnR X.prog X.w X.K X.mg X.base x j (spK X.K fun ds z => f ds = .ok z) := by
  unfold callKD at h
  split at h
  · rename_i f e
    obtain ⟨j, r, F⟩ := g.fns k x _ hx e
    exact ⟨f, j, h, r, F⟩
  · cases h
mutual
theorem sE : ∀ (e : E) {X : Cx} {c : Ck} (_ : Good X c tb gi) {x : Expr} (_ : chkE c e x = true) {s s' : Sls} {d : PyData} (_ : denE tb gi e s = .ok (s', d)), Ev X x s s' d
  | .var i, X, c, g, x, hc, s, s', d, h => by
    unfold chkE at hc; split at hc
    · obtain ⟨a, b, f, k⟩ := g.nm hc
      exact rdS_ok h a b f k
    · cases hc
  | .int n, X, c, g, x, hc, s, s', d, h => by
    obtain ⟨k, p, rfl⟩ := isIntC_of (show isIntC n x = true from hc)
    cases h; exact ev_int
  | .bl b, X, c, g, x, hc, s, s', d, h => by
    unfold chkE at hc; split at hc
    · have := eq_of_beq hc; subst this; cases h; exact ev_bl
    · cases hc
  | .str y, X, c, g, x, hc, s, s', d, h => by
    unfold chkE at hc; split at hc
    · have := eq_of_beq hc; subst this; cases h; exact ev_str
    · cases hc
  | .non, X, c, g, x, hc, s, s', d, h => by
    unfold chkE at hc; split at hc
    · cases h; exact ev_non
    · cases hc
  | .glb y, X, c, g, x, hc, s, s', d, h => by
    unfold chkE at hc; split at hc
    · simp only [Bool.and_eq_true] at hc
      have := eq_of_beq hc.1; subst this
      obtain ⟨i, h1, h⟩ := Oc.bind_eq_ok (show (ofO (gi.lookup _) >>= fun i => Oc.ok (s, PyData.int i)) = .ok (s', d) from h)
      cases h
      obtain ⟨t, ht⟩ := g.gi _ i (ofO_ok h1)
      exact ev_gint ht (g.gl hc.2.1) (odd_of hc.2.2).1
    · cases hc
  | .bin o a b, X, c, g, x, hc, s, s', d, h => by
    unfold chkE at hc; split at hc
    · simp only [Bool.and_eq_true] at hc
      have := eq_of_beq hc.1; subst this
      simp only [denE] at h
      obtain ⟨p, h1, h⟩ := Oc.bind_eq_ok h
      obtain ⟨q, h2, h⟩ := Oc.bind_eq_ok h
      obtain ⟨z, h3, h⟩ := Oc.bind_eq_ok h
      cases h
      obtain ⟨r, ho, hr⟩ := binD_ok (X := X) h3
      exact ev_bin ho (sE a g hc.2.1 h1) (sE b g hc.2.2 h2) hr
    · cases hc
  | .neg a, X, c, g, x, hc, s, s', d, h => by
    unfold chkE at hc; split at hc
    · simp only [denE] at h
      obtain ⟨p, h1, h⟩ := Oc.bind_eq_ok h
      obtain ⟨z, h3, h⟩ := Oc.bind_eq_ok h
      cases h
      have ih := sE a g hc h1
      obtain ⟨p1, p2⟩ := p
      cases p2 <;> cases h3
      exact ev_neg ih
    · cases hc
  | .cmp o a b, X, c, g, x, hc, s, s', d, h => by
    unfold chkE at hc; split at hc
    · simp only [Bool.and_eq_true] at hc
      have := eq_of_beq hc.1; subst this
      simp only [denE] at h
      obtain ⟨p, h1, h⟩ := Oc.bind_eq_ok h
      obtain ⟨q, h2, h⟩ := Oc.bind_eq_ok h
      obtain ⟨z, h3, h⟩ := Oc.bind_eq_ok h
      cases h
      obtain ⟨r, ho, hr⟩ := cmpD_ok (X := X) g.un h3
      exact ev_cmp ho (sE a g hc.2.2.1 h1) (sE b g hc.2.2.2 h2) hr (nomark' hc.2.1)
    · cases hc
  | .chain o1 o2 a b c', X, c, g, x, hc, s, s', d, h => by
    unfold chkE at hc; split at hc
    · simp only [Bool.and_eq_true] at hc
      obtain ⟨e1, e2, hn, k1, k2, k3⟩ := hc
      have := eq_of_beq e1; subst this
      have := eq_of_beq e2; subst this
      simp only [denE] at h
      obtain ⟨p, h1, h⟩ := Oc.bind_eq_ok h
      obtain ⟨q, h2, h⟩ := Oc.bind_eq_ok h
      obtain ⟨z, h3, h⟩ := Oc.bind_eq_ok h
      have i1 := sE a g k1 h1
      have i2 := sE b g k2 h2
      obtain ⟨r, ho, hr⟩ := cmpD_ok (X := X) g.un h3
      cases z with
      | false => cases h; exact ev_chainF ho (cmpAny g.un o2).choose_spec i1 i2 hr (notSet_last hn)
      | true =>
        obtain ⟨w, h4, h⟩ := Oc.bind_eq_ok h
        obtain ⟨z2, h5, h⟩ := Oc.bind_eq_ok h
        cases h
        obtain ⟨r2, ho2, hr2⟩ := cmpD_ok (X := X) g.un h5
        exact ev_chainT ho ho2 i1 i2 hr (sE c' g k3 h4) hr2 (notSet_last hn)
    · cases hc
  | .notE a, X, c, g, x, hc, s, s', d, h => by
    unfold chkE at hc; split at hc
    · simp only [denE] at h
      obtain ⟨p, h1, h⟩ := Oc.bind_eq_ok h
      obtain ⟨z, h3, h⟩ := Oc.bind_eq_ok h
      cases h
      have ih := sE a g hc h1
      rw [boolD_ok h3] at ih
      exact ev_not ih
    · cases hc
  | .ands es, X, c, g, x, hc, s, s', d, h => by
    unfold chkE at hc; split at hc
    · simp only [denE] at h
      obtain ⟨p, h1, h⟩ := Oc.bind_eq_ok h
      cases h
      exact sAnd es g hc h1 _
    · cases hc
  | .ors es, X, c, g, x, hc, s, s', d, h => by
    unfold chkE at hc; split at hc
    · simp only [denE] at h
      obtain ⟨p, h1, h⟩ := Oc.bind_eq_ok h
      cases h
      exact sOr es g hc h1 _
    · cases hc
  | .ite t a b, X, c, g, x, hc, s, s', d, h => by
    unfold chkE at hc; split at hc
    · simp only [Bool.and_eq_true] at hc
      simp only [denE] at h
      obtain ⟨p, h1, h⟩ := Oc.bind_eq_ok h
      have i1 := sT t g hc.1 h1
      obtain ⟨p1, p2⟩ := p
      cases p2 with
      | true => exact ev_iteT i1 (sE a g hc.2.1 h)
      | false => exact ev_iteF i1 (sE b g hc.2.2 h)
    · cases hc
  | .tup es, X, c, g, x, hc, s, s', d, h => by
    unfold chkE at hc; split at hc
    · simp only [denE] at h
      obtain ⟨p, h1, h⟩ := Oc.bind_eq_ok h
      split at h
      · rename_i hl
        cases h
        exact ev_tup (sEs es g hc h1).1 hl
      · cases h
    · cases hc
  | .fz l, X, c, g, x, hc, s, s', d, h => by
    simp only [denE] at h
    obtain ⟨p, h1, h⟩ := Oc.bind_eq_ok h
    cases h
    exact (sL l g (show chkL c l x = true from hc) h1).ev
  | .ix a b, X, c, g, x, hc, s, s', d, h => by
    unfold chkE at hc; split at hc
    · simp only [Bool.and_eq_true] at hc
      simp only [denE] at h
      obtain ⟨p, h1, h⟩ := Oc.bind_eq_ok h
      obtain ⟨q, h2, h⟩ := Oc.bind_eq_ok h
      obtain ⟨z, h3, h⟩ := Oc.bind_eq_ok h
      cases h
      exact ixD_c h3 (sE a g hc.2.1 h1) (sE b g hc.2.2 h2) g.u1 hc.1
    · cases hc
  | .ixv i b, X, c, g, x, hc, s, s', d, h => by
    unfold chkE at hc; split at hc
    · simp only [Bool.and_eq_true] at hc
      obtain ⟨hN, hv, hd, hcd⟩ := g.nm hc.2.1
      simp only [denE] at h
      split at h
      · rename_i e
        obtain ⟨q, h1, h⟩ := Oc.bind_eq_ok h
        obtain ⟨k, h2, h⟩ := Oc.bind_eq_ok h
        obtain ⟨xs, h3, h⟩ := Oc.bind_eq_ok h
        obtain ⟨z, h4, h⟩ := Oc.bind_eq_ok h
        cases h
        have ih := sE b g hc.2.2 h1
        rw [intD_ok h2] at ih
        exact ev_ixV hN e ih (rdL_ok h3) (ofO_ok h4) hv hd hcd (notSlice_ix hc.1)
      · rename_i dd e
        obtain ⟨q, h1, h⟩ := Oc.bind_eq_ok h
        obtain ⟨z, h3, h⟩ := Oc.bind_eq_ok h
        cases h
        exact ixD_c h3 (ev_var e hN hv hd hcd) (sE b g hc.2.2 h1) g.u1 hc.1
      · rename_i o kvs e
        obtain ⟨q, h1, h⟩ := Oc.bind_eq_ok h
        obtain ⟨k, h2, h⟩ := Oc.bind_eq_ok h
        obtain ⟨w, h3, h⟩ := Oc.bind_eq_ok h
        obtain ⟨z, h4, h⟩ := Oc.bind_eq_ok h
        cases h
        have ih := sE b g hc.2.2 h1
        rw [kyD_of (ofO_ok h2)] at ih
        exact ev_dgV hN e ih (rdK_ok h3) (ofO_ok h4) g.u1 hv hd hcd (notSlice_no hc.1)
      · rename_i kvs e
        obtain ⟨q, h1, h⟩ := Oc.bind_eq_ok h
        obtain ⟨k, h2, h⟩ := Oc.bind_eq_ok h
        obtain ⟨w, h3, h⟩ := Oc.bind_eq_ok h
        obtain ⟨z, h4, h⟩ := Oc.bind_eq_ok h
        cases h
        have ih := sE b g hc.2.2 h1
        rw [tkey_of (ofO_ok h2)] at ih
        exact ev_dgVT hN e ih (rdT_ok h3) (ofO_ok h4) g.u1 hv hd hcd (notSlice_no hc.1)
      · cases h
    · cases hc
  | .lenv i, X, c, g, x, hc, s, s', d, h => by
    unfold chkE at hc; split at hc
    · simp only [Bool.and_eq_true] at hc
      obtain ⟨hN, hv, hd, hcd⟩ := g.nm hc.2
      obtain ⟨rfl, hg, hm, hd1, hn⟩ := g.bl hc.1
      simp only [denE] at h
      obtain ⟨z, h1, h⟩ := Oc.bind_eq_ok h
      cases h
      exact len_ok h1 hN hv hd hcd hm hg
    · cases hc
  | .bi f es, X, c, g, x, hc, s, s', d, h => by
    unfold chkE at hc; split at hc
    · rw [Bool.and_eq_true] at hc
      simp only [denE] at h
      obtain ⟨p, h1, h⟩ := Oc.bind_eq_ok h
      obtain ⟨z, h2, h⟩ := Oc.bind_eq_ok h
      cases h
      obtain ⟨ih, hs, hl⟩ := sEs es g hc.2 h1
      exact bi_ok g rfl hc.1 hs hl ih h2
    · cases hc
  | .call k es, X, c, g, x, hc, s, s', d, h => by
    unfold chkE at hc; split at hc
    · rename_i xs _
      simp only [Bool.and_eq_true] at hc
      simp only [denE] at h
      obtain ⟨p, h1, h⟩ := Oc.bind_eq_ok h
      obtain ⟨z, h2, h⟩ := Oc.bind_eq_ok h
      cases h
      obtain ⟨ih, hs, hl⟩ := sEs es g hc.2.2.2 h1
      obtain ⟨f, j, hf, hr, F⟩ := callD_ok g (here_ok h2) (eq_of_beq hc.1)
      have od := odd_of hc.2.2.1
      cases xs with
      | nil =>
        have e0 : p.2 = [] := List.eq_nil_of_length_eq_zero (by simpa using hl.symm)
        rw [e0] at hf
        cases es with
        | nil => cases h1; exact ev_callR0 F hr g.gd hf (g.gl hc.2.1) od.1
        | cons e es => simp [chkEs] at hc
      | cons e xs =>
        rw [List.all_cons, Bool.and_eq_true] at hs
        exact ev_callR F hr g.gd ih hf (g.gl hc.2.1) od.1 (notStar_ea hs.1) (star_plain hs.2)
    · cases hc
  | .callS k i es, X, c, g, x, hc, s, s', d, h => by
    unfold chkE at hc; split at hc
    · simp only [Bool.and_eq_true] at hc
      simp only [denE] at h
      obtain ⟨w0, h0, h⟩ := Oc.bind_eq_ok h
      obtain ⟨p, h1, h⟩ := Oc.bind_eq_ok h
      obtain ⟨w, h2, h⟩ := Oc.bind_eq_ok h
      obtain ⟨z, h3, h⟩ := Oc.bind_eq_ok h
      cases h
      obtain ⟨ih, hs, hl⟩ := sEs es g hc.2.2.2.2 h1
      obtain ⟨f, j, hf, hr, F⟩ := callSD_ok g (here_ok h3) (eq_of_beq hc.1)
      obtain ⟨hN, hv, hd, hcd⟩ := g.nm hc.2.2.2.1
      exact ev_callSR F hr g.gd (rdK_ok h0) ih (rdK_ok h2) hf hN hv hd hcd (g.gl hc.2.1) (odd_of hc.2.2.1).1 (star_plain hs)
    · cases hc
  | .slT a lo hi, X, c, g, x, hc, s, s', d, h => by
    unfold chkE at hc; split at hc
    · simp only [Bool.and_eq_true] at hc
      simp only [denE] at h
      obtain ⟨p, h1, h⟩ := Oc.bind_eq_ok h
      obtain ⟨l, h2, h⟩ := Oc.bind_eq_ok h
      obtain ⟨u, h3, h⟩ := Oc.bind_eq_ok h
      obtain ⟨xs, h4, h⟩ := Oc.bind_eq_ok h
      cases h
      have ih := sE a g hc.1 h1
      rw [tupD_ok h4] at ih
      exact ev_slT ih (sOe lo g hc.2.1 h2) (sOe hi g hc.2.2 h3)
    · cases hc
  | .tyIs ne a t, X, c, g, x, hc, s, s', d, h => by
    unfold chkE at hc; split at hc
    · simp only [Bool.and_eq_true] at hc
      obtain ⟨e1, hb1, hb2, ht, hns, hk⟩ := hc
      have e1 := eq_of_beq e1
      subst e1
      obtain ⟨rfl, hg, hm, hd1, hn1⟩ := g.bl hb1
      obtain ⟨e2, hg2, hm2, hd2, hn2⟩ := g.bl hb2
      simp only [denE] at h
      obtain ⟨p, h1, h⟩ := Oc.bind_eq_ok h
      have ih := sE a g hk h1
      obtain ⟨hT, hv⟩ := boot_ty (List.contains_iff_mem.mp ht)
      rw [← e2] at hv
      cases ne with
      | false => cases h; exact ev_tyEq ih hm hm2 hT hv hg hg2 hn2 hd2 (notStar_ea hns) rfl
      | true =>
        simp only at h
        split at h
        · rename_i ht2
          cases h
          rw [← ht2] at hv
          exact ev_tyNe ih hm hm2 hv hg hg2 hn2 hd2 (notStar_ea hns)
        · cases h
    · cases hc
  | .bk a lo hi, X, c, g, x, hc, s, s', d, h => by
    unfold chkE at hc; split at hc
    · simp only [Bool.and_eq_true] at hc
      obtain ⟨k, p1, rfl⟩ := isIntC_of hc.1
      simp only [denE] at h
      obtain ⟨p, h1, h⟩ := Oc.bind_eq_ok h
      obtain ⟨l, h2, h⟩ := Oc.bind_eq_ok h
      obtain ⟨u, h3, h⟩ := Oc.bind_eq_ok h
      obtain ⟨xs, h4, h⟩ := Oc.bind_eq_ok h
      split at h
      · rename_i hz
        cases h
        have ih := sE a g hc.2.1 h1
        rw [tupD_ok h4] at ih
        exact ev_back ih (sOe lo g hc.2.2.1 h2) (sOe hi g hc.2.2.2 h3) (eo_so (ev_neg ev_int)) hz
      · cases h
    · cases hc
  | .tyIn ne a t1 t2, X, c, g, x, hc, s, s', d, h => by
    unfold chkE at hc; split at hc
    · simp only [Bool.and_eq_true] at hc
      obtain ⟨e1, hb1, hb2, hb3, ht1, ht2, hns, hk⟩ := hc
      have e1 := eq_of_beq e1
      subst e1
      obtain ⟨rfl, hg, hm, hd1, hn1⟩ := g.bl hb1
      obtain ⟨e2, hg2, hm2, hd2, hn2⟩ := g.bl hb2
      obtain ⟨e3, hg3, hm3, hd3, hn3⟩ := g.bl hb3
      simp only [denE] at h
      obtain ⟨p, h1, h⟩ := Oc.bind_eq_ok h
      cases h
      have ih := sE a g hk h1
      obtain ⟨hT1, hv1⟩ := boot_ty (List.contains_iff_mem.mp ht1)
      obtain ⟨hT2, hv2⟩ := boot_ty (List.contains_iff_mem.mp ht2)
      rw [← e2] at hv1
      rw [← e3] at hv2
      exact (ec_tyIn ih hm hg hns hm2 hg2 hv1 hT1 hn2 hd2 hm3 hg3 hv2 hT2 hn3 hd3).1
    · cases hc
  | .inn ne a b, X, c, g, x, hc, s, s', d, h => by
    unfold chkE at hc; split at hc
    · simp only [Bool.and_eq_true] at hc
      have e1 := eq_of_beq hc.1
      subst e1
      simp only [denE] at h
      obtain ⟨p, h1, h⟩ := Oc.bind_eq_ok h
      obtain ⟨q, h2, h⟩ := Oc.bind_eq_ok h
      obtain ⟨z, h3, h⟩ := Oc.bind_eq_ok h
      cases h
      exact (innD_c h3 (sE a g hc.2.2.1 h1) (sE b g hc.2.2.2 h2) g.u1 fun op => notSet_in hc.2.1).1
    · cases hc
  | .innv ne a i, X, c, g, x, hc, s, s', d, h => by
    unfold chkE at hc; split at hc
    · simp only [Bool.and_eq_true] at hc
      have e1 := eq_of_beq hc.1
      subst e1
      obtain ⟨hN, hv, hd, hcd⟩ := g.nm hc.2.1
      simp only [denE] at h
      obtain ⟨p, h1, h⟩ := Oc.bind_eq_ok h
      have ih := sE a g hc.2.2 h1
      split at h
      · rename_i o kvs e
        obtain ⟨k, h2, h⟩ := Oc.bind_eq_ok h
        cases h
        rw [kyD_of (ofO_ok h2)] at ih
        exact (ec_inV hN ih e g.u1 hv hd hcd).1
      · rename_i kvs e
        obtain ⟨k, h2, h⟩ := Oc.bind_eq_ok h
        cases h
        rw [tkey_of (ofO_ok h2)] at ih
        exact (ec_inVT hN ih e g.u1 hv hd hcd).1
      · cases h
    · cases hc
theorem sAnd : ∀ (es : Es) {X : Cx} {c : Ck} (_ : Good X c tb gi) {xs : List Expr} (_ : chkEs c es xs = true) {s s' : Sls} {b : Bool} (_ : denAnd tb gi es s = .ok (s', b)) (pos : Pos), Ev X (.BoolOp .And xs pos) s s' (.bool b)
  | .nil, X, c, g, xs, hc, s, s', b, h, pos => by cases h
  | .cons e .nil, X, c, g, xs, hc, s, s', b, h, pos => by
    unfold chkEs at hc; split at hc
    · rename_i x ys
      simp only [Bool.and_eq_true] at hc
      simp only [denAnd] at h
      obtain ⟨p, h1, h⟩ := Oc.bind_eq_ok h
      obtain ⟨z, h2, h⟩ := Oc.bind_eq_ok h
      cases h
      have ih := sE e g hc.2.1 h1
      rw [boolD_ok h2] at ih
      cases ys with
      | nil => exact ev_one ih
      | cons _ _ => simp [chkEs] at hc
    · cases hc
  | .cons e (.cons e2 es), X, c, g, xs, hc, s, s', b, h, pos => by
    unfold chkEs at hc; split at hc
    · rename_i x ys
      simp only [Bool.and_eq_true] at hc
      simp only [denAnd] at h
      obtain ⟨p, h1, h⟩ := Oc.bind_eq_ok h
      obtain ⟨z, h2, h⟩ := Oc.bind_eq_ok h
      have ih := sE e g hc.2.1 h1
      rw [boolD_ok h2] at ih
      cases ys with
      | nil => simp [chkEs] at hc
      | cons y ys =>
        cases z with
        | false => cases h; exact ev_andF ih
        | true => exact ev_andT ih (sAnd (.cons e2 es) g hc.2.2 h pos)
    · cases hc
theorem sOr : ∀ (es : Es) {X : Cx} {c : Ck} (_ : Good X c tb gi) {xs : List Expr} (_ : chkEs c es xs = true) {s s' : Sls} {b : Bool} (_ : denOr tb gi es s = .ok (s', b)) (pos : Pos), Ev X (.BoolOp .Or xs pos) s s' (.bool b)
  | .nil, X, c, g, xs, hc, s, s', b, h, pos => by cases h
  | .cons e .nil, X, c, g, xs, hc, s, s', b, h, pos => by
    unfold chkEs at hc; split at hc
    · rename_i x ys
      simp only [Bool.and_eq_true] at hc
      simp only [denOr] at h
      obtain ⟨p, h1, h⟩ := Oc.bind_eq_ok h
      obtain ⟨z, h2, h⟩ := Oc.bind_eq_ok h
      cases h
      have ih := sE e g hc.2.1 h1
      rw [boolD_ok h2] at ih
      cases ys with
      | nil => exact ev_one ih
      | cons _ _ => simp [chkEs] at hc
    · cases hc
  | .cons e (.cons e2 es), X, c, g, xs, hc, s, s', b, h, pos => by
    unfold chkEs at hc; split at hc
    · rename_i x ys
      simp only [Bool.and_eq_true] at hc
      simp only [denOr] at h
      obtain ⟨p, h1, h⟩ := Oc.bind_eq_ok h
      obtain ⟨z, h2, h⟩ := Oc.bind_eq_ok h
      have ih := sE e g hc.2.1 h1
      rw [boolD_ok h2] at ih
      cases ys with
      | nil => simp [chkEs] at hc
      | cons y ys =>
        cases z with
        | true => cases h; exact ev_orT ih
        | false => exact ev_orF ih (sOr (.cons e2 es) g hc.2.2 h pos)
    · cases hc
theorem sOe : ∀ (o : Oe) {X : Cx} {c : Ck} (_ : Good X c tb gi) {x : Option Expr} (_ : chkOe c o x = true) {s s' : Sls} {k : Option Int} (_ : denOe tb gi o s = .ok (s', k)), EvO X x s s' k
  | .no, X, c, g, x, hc, s, s', k, h => by
    cases x with
    | none => cases h; exact eo_no
    | some _ => cases hc
  | .so e, X, c, g, x, hc, s, s', k, h => by
    cases x with
    | none => cases hc
    | some y =>
      simp only [denOe] at h
      obtain ⟨p, h1, h⟩ := Oc.bind_eq_ok h
      obtain ⟨i, h2, h⟩ := Oc.bind_eq_ok h
      cases h
      have ih := sE e g (show chkE c e y = true from hc) h1
      rw [intD_ok h2] at ih
      exact eo_so ih
theorem sEs : ∀ (es : Es) {X : Cx} {c : Ck} (_ : Good X c tb gi) {xs : List Expr} (_ : chkEs c es xs = true) {s s' : Sls} {ds : List PyData} (_ : denEs tb gi es s = .ok (s', ds)), EvA X xs s s' ds ∧ xs.all notStar = true ∧ xs.length = ds.length
  | .nil, X, c, g, xs, hc, s, s', ds, h => by
    cases xs with
    | nil => cases h; exact ⟨ea_nil, rfl, rfl⟩
    | cons _ _ => cases hc
  | .cons e es, X, c, g, xs, hc, s, s', ds, h => by
    unfold chkEs at hc; split at hc
    · simp only [Bool.and_eq_true] at hc
      simp only [denEs] at h
      obtain ⟨p, h1, h⟩ := Oc.bind_eq_ok h
      obtain ⟨q, h2, h⟩ := Oc.bind_eq_ok h
      cases h
      obtain ⟨i1, i2, i3⟩ := sEs es g hc.2.2 h2
      exact ⟨ea_cons (sE e g hc.2.1 h1) i1 (notStar_ea hc.1), by rw [List.all_cons, hc.1, i2]; rfl, by simp [i3]⟩
    · cases hc
theorem sL : ∀ (l : L) {X : Cx} {c : Ck} (_ : Good X c tb gi) {x : Expr} (_ : chkL c l x = true) {s s' : Sls} {ds : List PyData} (_ : denL tb gi l s = .ok (s', ds)), EvL X x s s' ds
  | .lst es, X, c, g, x, hc, s, s', ds, h => by
    unfold chkL at hc; split at hc
    · simp only [denL] at h
      obtain ⟨p, h1, h⟩ := Oc.bind_eq_ok h
      split at h
      · rename_i hl
        cases h
        exact el_lst (sEs es g hc h1).1 hl
      · cases h
    · cases hc
  | .rep a b, X, c, g, x, hc, s, s', ds, h => by
    unfold chkL at hc; split at hc
    · simp only [Bool.and_eq_true] at hc
      simp only [denL] at h
      obtain ⟨p, h1, h⟩ := Oc.bind_eq_ok h
      obtain ⟨q, h2, h⟩ := Oc.bind_eq_ok h
      obtain ⟨k, h3, h⟩ := Oc.bind_eq_ok h
      split at h
      · rename_i hl
        cases h
        have ih := sE b g hc.2 h2
        rw [intD_ok h3] at ih
        exact el_rep (sL a g hc.1 h1) ih ⟨hl.1, hl.2.1⟩ hl.2.2
      · cases h
    · cases hc
  | .cat a b, X, c, g, x, hc, s, s', ds, h => by
    unfold chkL at hc; split at hc
    · simp only [Bool.and_eq_true] at hc
      simp only [denL] at h
      obtain ⟨p, h1, h⟩ := Oc.bind_eq_ok h
      obtain ⟨q, h2, h⟩ := Oc.bind_eq_ok h
      obtain ⟨xs, h3, h⟩ := Oc.bind_eq_ok h
      obtain ⟨ys, h4, h⟩ := Oc.bind_eq_ok h
      split at h
      · rename_i hl
        cases h
        have ia := sE a g hc.1 h1
        have ib := sE b g hc.2 h2
        rw [listD_ok h3] at ia
        rw [listD_ok h4] at ib
        exact el_catD ia ib hl
      · cases h
    · cases hc
  | .slc a lo hi, X, c, g, x, hc, s, s', ds, h => by
    unfold chkL at hc; split at hc
    · simp only [Bool.and_eq_true] at hc
      simp only [denL] at h
      obtain ⟨p, h1, h⟩ := Oc.bind_eq_ok h
      obtain ⟨l, h2, h⟩ := Oc.bind_eq_ok h
      obtain ⟨u, h3, h⟩ := Oc.bind_eq_ok h
      obtain ⟨xs, h4, h⟩ := Oc.bind_eq_ok h
      cases h
      have ih := sE a g hc.1 h1
      rw [listD_ok h4] at ih
      exact el_slice ih (sOe lo g hc.2.1 h2) (sOe hi g hc.2.2 h3)
    · cases hc
  | .bl f es, X, c, g, x, hc, s, s', ds, h => by
    unfold chkL at hc; split at hc
    · rw [Bool.and_eq_true] at hc
      simp only [denL] at h
      obtain ⟨p, h1, h⟩ := Oc.bind_eq_ok h
      obtain ⟨z, h2, h⟩ := Oc.bind_eq_ok h
      cases h
      obtain ⟨ih, hs, hl⟩ := sEs es g hc.2 h1
      exact bl_ok g rfl hc.1 hs ih h2
    · cases hc
  | .lc own gg it elt, X, c, g, x, hc, s, s', ds, h => by
    unfold chkL at hc; split at hc
    · simp only [Bool.and_eq_true] at hc
      obtain ⟨hb, ho, hn, k1, k2, k3⟩ := hc
      simp only [denL] at h
      obtain ⟨p, h1, h⟩ := Oc.bind_eq_ok h
      split at h
      · rename_i hl
        obtain ⟨hlen, S, S0, Se, f⟩ := lcF_at h
        have ho := ownN_snd ho
        have hb := blkOk_of hb
        rw [← g.N, ← g.sc] at hb
        have hi := sI it g k1 h1
        rw [← Se]
        refine el_lc (own := ownN c.N own) hi (by rw [g.N] at hb ⊢; exact hb) (by rw [ho]; exact S0) hlen hl.1 (fun i d y hd hy => ?_) g.nd g.calm (notSet_fold hn)
        obtain ⟨m', h2, hw⟩ := f i d y hd hy
        obtain ⟨m, h3, h4⟩ := Oc.bind_eq_ok h2
        refine ⟨m, tsG gg, m', by rw [ho]; exact hl.2, by rw [ho]; exact hw, fun s1 H1 C1 cl1 fp1 => ⟨sG gg (g.blk _ s1 H1 C1 cl1 fp1) k2 h3, sE elt (g.blk _ s1 H1 C1 cl1 fp1) k3 h4⟩⟩
      · cases h
    · cases hc
  | .lcIf own gg it t elt, X, c, g, x, hc, s, s', ds, h => by
    unfold chkL at hc; split at hc
    · simp only [Bool.and_eq_true] at hc
      obtain ⟨hb, ho, hn, k1, k2, k3, k4⟩ := hc
      simp only [denL] at h
      obtain ⟨p, h1, h⟩ := Oc.bind_eq_ok h
      split at h
      · rename_i hl
        obtain ⟨zs, ez, hlen, S, S0, Se, f⟩ := lcIfF_at h
        have ho := ownN_snd ho
        have hb := blkOk_of hb
        rw [← g.N, ← g.sc] at hb
        have hi := sI it g k1 h1
        rw [← Se, ← ez]
        refine el_lcIf (own := ownN c.N own) hi (by rw [g.N] at hb ⊢; exact hb) (by rw [ho]; exact S0) hlen hl.1 (fun i d y hd hy => ?_) g.nd g.calm (notSet_fold hn)
        obtain ⟨m', h2, hw⟩ := f i d y hd hy
        obtain ⟨m, h3, h4⟩ := Oc.bind_eq_ok h2
        obtain ⟨u, h5, h6⟩ := Oc.bind_eq_ok h4
        obtain ⟨u1, u2⟩ := u
        cases u2 with
        | true =>
          obtain ⟨w, h7, h8⟩ := Oc.bind_eq_ok h6
          cases h8
          exact ⟨m, tsG gg, u1, _, by rw [ho]; exact hl.2, by rw [ho]; exact hw, fun s1 H1 C1 cl1 fp1 => ⟨sG gg (g.blk _ s1 H1 C1 cl1 fp1) k2 h3, sT t (g.blk _ s1 H1 C1 cl1 fp1) k3 h5, fun y e => by cases e; exact sE elt (g.blk _ s1 H1 C1 cl1 fp1) k4 h7, fun e => by cases e⟩⟩
        | false =>
          cases h6
          exact ⟨m, tsG gg, u1, u1, by rw [ho]; exact hl.2, by rw [ho]; exact hw, fun s1 H1 C1 cl1 fp1 => ⟨sG gg (g.blk _ s1 H1 C1 cl1 fp1) k2 h3, sT t (g.blk _ s1 H1 C1 cl1 fp1) k3 h5, (fun y e => nomatch e), fun e => rfl⟩⟩
      · cases h
    · cases hc
  | .lc2 own v1 gg it g1 it1 elt, X, c, g, x, hc, s, s', ds, h => by
    unfold chkL at hc; split at hc
    · simp only [Bool.and_eq_true] at hc
      obtain ⟨hb, ho, hv, hn, hn1, k1, k2, k3, k4, k5⟩ := hc
      simp only [denL] at h
      obtain ⟨p, h1, h⟩ := Oc.bind_eq_ok h
      split at h
      · rename_i hl
        obtain ⟨ys, h2, h⟩ := Oc.bind_eq_ok h
        split at h
        · rename_i hsz
          cases h
          obtain ⟨yss, ey, hlen, f⟩ := lc2F_at h2
          have ho := ownN_snd ho
          have hb := blkOk_of hb
          rw [← g.N, ← g.sc] at hb
          have hi := sI it g k1 h1
          have hvv : ∀ i ∈ v1, i ∈ own := fun i hi => by
            rw [List.all_eq_true] at hv
            exact List.contains_iff_mem.mp (hv i hi)
          rw [← ey] at hsz ⊢
          have eo : wipeS p.1 own = wipeS p.1 ((ownN c.N own).map (·.2)) := by rw [ho]
          show EvL X _ s (wipeS p.1 own) yss.flatten
          rw [eo]
          refine el_lc2 (own := ownN c.N own) (vs1 := v1) (s1 := p.1) (yss := yss) hi (by rw [g.N] at hb ⊢; exact hb) (by rw [ho]; exact hvv) hlen hsz (fun i d y hd hy => ?_) g.nd g.calm (notSet_fold hn) (fun env => notSet_fold hn1)
          · have h3 := f i d y hd hy
            obtain ⟨m, h4, h5⟩ := Oc.bind_eq_ok h3
            obtain ⟨q, h6, h7⟩ := Oc.bind_eq_ok h5
            split at h7
            · rename_i hw
              obtain ⟨hly, f1⟩ := lc1F_at h7
              refine ⟨m, tsG gg, q.1, q.2, fun j => match q.2[j]? with
                | some d1 => (match denG g1 (wipeS q.1 v1) d1 with | .ok m1 => m1 | _ => q.1)
                | none => q.1, tsG g1, by rw [ho]; exact hl.1, hl.2, by rw [ho]; exact hw, fun j => ?_, hly, fun s1 H1 C1 cl1 fp1 => ⟨by rw [ho]; exact sG gg (g.blk _ s1 H1 C1 cl1 fp1) k2 h4, sI it1 (g.blk _ s1 H1 C1 cl1 fp1) k3 h6, fun j d1 y1 hd1 hy1 => ?_⟩⟩
              · show wipeS (match q.2[j]? with
                  | some d1 => (match denG g1 (wipeS q.1 v1) d1 with | .ok m1 => m1 | _ => q.1)
                  | none => q.1) v1 = wipeS q.1 v1
                split
                · split
                  · rename_i e
                    obtain ⟨a, b⟩ := denG_out g1 e
                    rw [wipeS_eq (t := wipeS q.1 v1) a fun j hj => b j fun z => hj (hl.2 j z), wipeS_idem]
                  · rfl
                · rfl
              · have h8 := f1 j d1 y1 hd1 hy1
                obtain ⟨m1, h9, h10⟩ := Oc.bind_eq_ok h8
                obtain ⟨r, h11, h12⟩ := Oc.bind_eq_ok h10
                split at h12
                · rename_i hr
                  cases h12
                  simp only [hd1, h9]
                  have i2 := sE elt (g.blk _ s1 H1 C1 cl1 fp1) k5 h11
                  rw [hr] at i2
                  exact ⟨sG g1 (g.blk _ s1 H1 C1 cl1 fp1) k4 h9, i2⟩
                · cases h12
            · cases h7
        · cases h
      · cases h
    · cases hc
theorem sT : ∀ (t : T) {X : Cx} {c : Ck} (_ : Good X c tb gi) {x : Expr} (_ : chkT c t x = true) {s s' : Sls} {b : Bool} (_ : denT tb gi t s = .ok (s', b)), EvT X x s s' b
  | .val e, X, c, g, x, hc, s, s', b, h => by
    simp only [denT] at h
    obtain ⟨p, h1, h⟩ := Oc.bind_eq_ok h
    obtain ⟨z, h2, h⟩ := Oc.bind_eq_ok h
    cases h
    unfold chkT at hc; split at hc
    · exact sTC e g hc h1 (boolD_ok h2)
    · rw [Bool.and_eq_true] at hc
      have ih := sE e g hc.2 h1
      rw [boolD_ok h2] at ih
      exact et_val ih (plainT_is hc.1)
  | .nt t, X, c, g, x, hc, s, s', b, h => by
    unfold chkT at hc; split at hc
    · simp only [denT] at h
      obtain ⟨p, h1, h⟩ := Oc.bind_eq_ok h
      cases h
      exact et_not (sT t g hc h1)
    · cases hc
  | .ands ts, X, c, g, x, hc, s, s', b, h => by
    unfold chkT at hc; split at hc
    · exact (sTA ts g hc h _).et
    · cases hc
  | .ors ts, X, c, g, x, hc, s, s', b, h => by
    unfold chkT at hc; split at hc
    · exact (sTO ts g hc h _).et
    · cases hc
theorem sTA : ∀ (ts : Ts) {X : Cx} {c : Ck} (_ : Good X c tb gi) {xs : List Expr} (_ : chkTs c ts xs = true) {s s' : Sls} {b : Bool} (_ : denTA tb gi ts s = .ok (s', b)) (pos : Pos), EvP X (.BoolOp .And xs pos) s s' b
  | .one t, X, c, g, xs, hc, s, s', b, h, pos => by
    unfold chkTs at hc; split at hc
    · exact ep_and1 (sT t g hc h)
    · cases hc
  | .cons t ts, X, c, g, xs, hc, s, s', b, h, pos => by
    unfold chkTs at hc; split at hc
    · rw [Bool.and_eq_true] at hc
      simp only [denTA] at h
      obtain ⟨p, h1, h⟩ := Oc.bind_eq_ok h
      have ih := sT t g hc.1 h1
      obtain ⟨p1, p2⟩ := p
      cases p2 with
      | false => cases h; exact ep_andF ih
      | true => exact ep_andT ih (sTA ts g hc.2 h pos)
    · cases hc
theorem sTO : ∀ (ts : Ts) {X : Cx} {c : Ck} (_ : Good X c tb gi) {xs : List Expr} (_ : chkTs c ts xs = true) {s s' : Sls} {b : Bool} (_ : denTO tb gi ts s = .ok (s', b)) (pos : Pos), EvP X (.BoolOp .Or xs pos) s s' b
  | .one t, X, c, g, xs, hc, s, s', b, h, pos => by
    unfold chkTs at hc; split at hc
    · exact ep_or1 (sT t g hc h)
    · cases hc
  | .cons t ts, X, c, g, xs, hc, s, s', b, h, pos => by
    unfold chkTs at hc; split at hc
    · rw [Bool.and_eq_true] at hc
      simp only [denTO] at h
      obtain ⟨p, h1, h⟩ := Oc.bind_eq_ok h
      have ih := sT t g hc.1 h1
      obtain ⟨p1, p2⟩ := p
      cases p2 with
      | true => cases h; exact ep_orT ih
      | false => exact ep_orF ih (sTO ts g hc.2 h pos)
    · cases hc
/-- a comparison as a test -/
theorem sTC : ∀ (e : E) {X : Cx} {c : Ck} (_ : Good X c tb gi) {l : Expr} {ops : List CmpOp} {cs : List Expr} {pos : Pos} (_ : chkE c e (.Compare l ops cs pos) = true) {s s' : Sls} {d : PyData} {b : Bool} (_ : denE tb gi e s = .ok (s', d)) (_ : d = .bool b), EvT X (.Compare l ops cs pos) s s' b
  | .cmp o a b', X, c, g, l, ops, cs, pos, hc, s, s', d, b, h, hd => by
    unfold chkE at hc; split at hc
    · rename_i e; cases e
      simp only [Bool.and_eq_true] at hc
      have := eq_of_beq hc.1; subst this
      simp only [denE] at h
      obtain ⟨p, h1, h⟩ := Oc.bind_eq_ok h
      obtain ⟨q, h2, h⟩ := Oc.bind_eq_ok h
      obtain ⟨z, h3, h⟩ := Oc.bind_eq_ok h
      cases h; cases hd
      obtain ⟨r, ho, hr⟩ := cmpD_ok (X := X) g.un h3
      exact et_cmp ho (sE a g hc.2.2.1 h1) (sE b' g hc.2.2.2 h2) hr (nomark' hc.2.1)
    · cases hc
  | .chain o1 o2 a b' c', X, c, g, l, ops, cs, pos, hc, s, s', d, b, h, hd => by
    unfold chkE at hc; split at hc
    · rename_i e; cases e
      simp only [Bool.and_eq_true] at hc
      obtain ⟨e1, e2, hn, k1, k2, k3⟩ := hc
      have := eq_of_beq e1; subst this
      have := eq_of_beq e2; subst this
      simp only [denE] at h
      obtain ⟨p, h1, h⟩ := Oc.bind_eq_ok h
      obtain ⟨q, h2, h⟩ := Oc.bind_eq_ok h
      obtain ⟨z, h3, h⟩ := Oc.bind_eq_ok h
      have i1 := sE a g k1 h1
      have i2 := sE b' g k2 h2
      obtain ⟨r, ho, hr⟩ := cmpD_ok (X := X) g.un h3
      cases z with
      | false => cases h; cases hd; exact et_chainF ho (cmpAny g.un o2).choose_spec i1 i2 hr (notSet_last hn)
      | true =>
        obtain ⟨w, h4, h⟩ := Oc.bind_eq_ok h
        obtain ⟨z2, h5, h⟩ := Oc.bind_eq_ok h
        cases h; cases hd
        obtain ⟨r2, ho2, hr2⟩ := cmpD_ok (X := X) g.un h5
        exact et_chainT ho ho2 i1 i2 hr (sE c' g k3 h4) hr2 (notSet_last hn)
    · cases hc
  | .tyIs ne a t, X, c, g, l, ops, cs, pos, hc, s, s', d, b, h, hd => by
    unfold chkE at hc; split at hc
    · rename_i e; cases e
      simp only [Bool.and_eq_true] at hc
      obtain ⟨e1, hb1, hb2, ht, hns, hk⟩ := hc
      have e1 := eq_of_beq e1
      subst e1
      obtain ⟨rfl, hg, hm, hd1, hn1⟩ := g.bl hb1
      obtain ⟨e2, hg2, hm2, hd2, hn2⟩ := g.bl hb2
      simp only [denE] at h
      obtain ⟨p, h1, h⟩ := Oc.bind_eq_ok h
      have ih := sE a g hk h1
      obtain ⟨hT, hv⟩ := boot_ty (List.contains_iff_mem.mp ht)
      rw [← e2] at hv
      cases ne with
      | false => cases h; cases hd; exact et_tyEq ih hm hm2 hT hv hg hg2 hn2 hd2 (notStar_ea hns) rfl
      | true =>
        simp only at h
        split at h
        · rename_i ht2
          cases h; cases hd
          rw [← ht2] at hv
          exact et_tyNeS ih hm hm2 hv hg hg2 hn2 hd2 (notStar_ea hns) rfl
        · cases h
    · cases hc
  | .tyIn ne a t1 t2, X, c, g, l, ops, cs, pos, hc, s, s', d, b, h, hd => by
    unfold chkE at hc; split at hc
    · rename_i e; cases e
      simp only [Bool.and_eq_true] at hc
      obtain ⟨e1, hb1, hb2, hb3, ht1, ht2, hns, hk⟩ := hc
      have e1 := eq_of_beq e1
      subst e1
      obtain ⟨rfl, hg, hm, hd1, hn1⟩ := g.bl hb1
      obtain ⟨e2, hg2, hm2, hd2, hn2⟩ := g.bl hb2
      obtain ⟨e3, hg3, hm3, hd3, hn3⟩ := g.bl hb3
      simp only [denE] at h
      obtain ⟨p, h1, h⟩ := Oc.bind_eq_ok h
      cases h; cases hd
      have ih := sE a g hk h1
      obtain ⟨hT1, hv1⟩ := boot_ty (List.contains_iff_mem.mp ht1)
      obtain ⟨hT2, hv2⟩ := boot_ty (List.contains_iff_mem.mp ht2)
      rw [← e2] at hv1
      rw [← e3] at hv2
      exact (ec_tyIn ih hm hg hns hm2 hg2 hv1 hT1 hn2 hd2 hm3 hg3 hv2 hT2 hn3 hd3).2
    · cases hc
  | .bk _ _ _, X, c, g, l, ops, cs, pos, hc, s, s', d, b, h, hd => by cases hc
  | .inn ne a b', X, c, g, l, ops, cs, pos, hc, s, s', d, b, h, hd => by
    unfold chkE at hc; split at hc
    · rename_i e; cases e
      simp only [Bool.and_eq_true] at hc
      have e1 := eq_of_beq hc.1
      subst e1
      simp only [denE] at h
      obtain ⟨p, h1, h⟩ := Oc.bind_eq_ok h
      obtain ⟨q, h2, h⟩ := Oc.bind_eq_ok h
      obtain ⟨z, h3, h⟩ := Oc.bind_eq_ok h
      cases h; cases hd
      exact (innD_c h3 (sE a g hc.2.2.1 h1) (sE b' g hc.2.2.2 h2) g.u1 fun op => notSet_in hc.2.1).2
    · cases hc
  | .innv ne a i, X, c, g, l, ops, cs, pos, hc, s, s', d, b, h, hdd => by
    unfold chkE at hc; split at hc
    · rename_i e; cases e
      simp only [Bool.and_eq_true] at hc
      have e1 := eq_of_beq hc.1
      subst e1
      obtain ⟨hN, hv, hd, hcd⟩ := g.nm hc.2.1
      simp only [denE] at h
      obtain ⟨p, h1, h⟩ := Oc.bind_eq_ok h
      have ih := sE a g hc.2.2 h1
      split at h
      · rename_i o kvs e
        obtain ⟨k, h2, h⟩ := Oc.bind_eq_ok h
        cases h; cases hdd
        rw [kyD_of (ofO_ok h2)] at ih
        exact (ec_inV hN ih e g.u1 hv hd hcd).2
      · rename_i kvs e
        obtain ⟨k, h2, h⟩ := Oc.bind_eq_ok h
        cases h; cases hdd
        rw [tkey_of (ofO_ok h2)] at ih
        exact (ec_inVT hN ih e g.u1 hv hd hcd).2
      · cases h
    · cases hc
  | .fz l', X, c, g, l, ops, cs, pos, hc, s, s', d, b, h, hd => by
    unfold chkE at hc
    cases l' <;> cases hc
  | .var _, X, c, g, l, ops, cs, pos, hc, s, s', d, b, h, hd => by cases hc
  | .int _, X, c, g, l, ops, cs, pos, hc, s, s', d, b, h, hd => by cases hc
  | .bl _, X, c, g, l, ops, cs, pos, hc, s, s', d, b, h, hd => by cases hc
  | .str _, X, c, g, l, ops, cs, pos, hc, s, s', d, b, h, hd => by cases hc
  | .non, X, c, g, l, ops, cs, pos, hc, s, s', d, b, h, hd => by cases hc
  | .glb _, X, c, g, l, ops, cs, pos, hc, s, s', d, b, h, hd => by cases hc
  | .bin _ _ _, X, c, g, l, ops, cs, pos, hc, s, s', d, b, h, hd => by cases hc
  | .neg _, X, c, g, l, ops, cs, pos, hc, s, s', d, b, h, hd => by cases hc
  | .notE _, X, c, g, l, ops, cs, pos, hc, s, s', d, b, h, hd => by cases hc
  | .ands _, X, c, g, l, ops, cs, pos, hc, s, s', d, b, h, hd => by cases hc
  | .ors _, X, c, g, l, ops, cs, pos, hc, s, s', d, b, h, hd => by cases hc
  | .ite _ _ _, X, c, g, l, ops, cs, pos, hc, s, s', d, b, h, hd => by cases hc
  | .tup _, X, c, g, l, ops, cs, pos, hc, s, s', d, b, h, hd => by cases hc
  | .ix _ _, X, c, g, l, ops, cs, pos, hc, s, s', d, b, h, hd => by cases hc
  | .ixv _ _, X, c, g, l, ops, cs, pos, hc, s, s', d, b, h, hd => by cases hc
  | .lenv _, X, c, g, l, ops, cs, pos, hc, s, s', d, b, h, hd => by cases hc
  | .bi _ _, X, c, g, l, ops, cs, pos, hc, s, s', d, b, h, hd => by cases hc
  | .call _ _, X, c, g, l, ops, cs, pos, hc, s, s', d, b, h, hd => by cases hc
  | .callS _ _ _, X, c, g, l, ops, cs, pos, hc, s, s', d, b, h, hd => by cases hc
  | .slT _ _ _, X, c, g, l, ops, cs, pos, hc, s, s', d, b, h, hd => by cases hc
theorem sI : ∀ (it : I) {X : Cx} {c : Ck} (_ : Good X c tb gi) {tg x : Expr} (_ : chkI c it tg x = true) {s s' : Sls} {ds : List PyData} (_ : denI tb gi it s = .ok (s', ds)), EvI X tg x s s' ds
  | .seq e, X, c, g, tg, x, hc, s, s', ds, h => by
    simp only [denI] at h
    obtain ⟨p, h1, h⟩ := Oc.bind_eq_ok h
    have ih := sE e g (show chkE c e x = true from hc) h1
    obtain ⟨p1, p2⟩ := p
    simp only at h ih
    split at h
    · cases h; exact ei_list ih
    · cases h; exact ei_tup ih
    · split at h
      · rename_i kvs e2
        cases h
        rw [dictV_k e2] at ih
        exact ei_dictK ih
      · rename_i kvs e2
        cases h
        rw [dictV_t e2] at ih
        exact ei_dictT ih
      · cases h
  | .rng a, X, c, g, tg, x, hc, s, s', ds, h => by
    unfold chkI at hc; split at hc
    · simp only [Bool.and_eq_true] at hc
      obtain ⟨rfl, hg, hm, hd1, hn⟩ := g.bl hc.1
      simp only [denI] at h
      obtain ⟨p, h1, h⟩ := Oc.bind_eq_ok h
      obtain ⟨j, h2, h⟩ := Oc.bind_eq_ok h
      split at h
      · rename_i hj
        cases h
        have ih := sE a g hc.2.2 h1
        rw [intD_ok h2] at ih
        exact ei_rng1 (ea_cons ih ea_nil (notStar_ea hc.2.1)) hm hj hg (notStar_ea hc.2.1)
      · cases h
    · cases hc
  | .rng2 a b, X, c, g, tg, x, hc, s, s', ds, h => by
    unfold chkI at hc; split at hc
    · simp only [Bool.and_eq_true] at hc
      obtain ⟨rfl, hg, hm, hd1, hn⟩ := g.bl hc.1
      simp only [denI] at h
      obtain ⟨p, h1, h⟩ := Oc.bind_eq_ok h
      obtain ⟨q, h2, h⟩ := Oc.bind_eq_ok h
      obtain ⟨i, h3, h⟩ := Oc.bind_eq_ok h
      obtain ⟨j, h4, h⟩ := Oc.bind_eq_ok h
      split at h
      · rename_i hj
        cases h
        have i1 := sE a g hc.2.2.2.1 h1
        have i2 := sE b g hc.2.2.2.2 h2
        rw [intD_ok h3] at i1
        rw [intD_ok h4] at i2
        have n1 := notStar_ea (es := []) (env := X.env) hc.2.2.1
        exact ei_rng2 (ea_cons i1 (ea_cons i2 ea_nil n1) (notStar_ea hc.2.1)) hm hj.1 hj.2 hg (by rw [notStar_ea hc.2.1, n1]; rfl) n1
      · cases h
    · cases hc
  | .enum a, X, c, g, tg, x, hc, s, s', ds, h => by
    unfold chkI at hc; split at hc
    · simp only [Bool.and_eq_true] at hc
      obtain ⟨rfl, hg, hm, hd1, hn⟩ := g.bl hc.1
      simp only [denI] at h
      obtain ⟨p, h1, h⟩ := Oc.bind_eq_ok h
      obtain ⟨xs, h2, h⟩ := Oc.bind_eq_ok h
      cases h
      have ih := sE a g hc.2.2 h1
      have n1 := notStar_ea (es := []) (env := X.env) hc.2.1
      rcases seqD_ok h2 with e | e
      · rw [e] at ih; exact ei_enumL (ea_cons ih ea_nil n1) hm hg n1
      · rw [e] at ih; exact ei_enumT (ea_cons ih ea_nil n1) hm hg n1
    · cases hc
  | .zip a b, X, c, g, tg, x, hc, s, s', ds, h => by
    unfold chkI at hc; split at hc
    · simp only [Bool.and_eq_true] at hc
      obtain ⟨rfl, hg, hm, hd1, hn⟩ := g.bl hc.1
      simp only [denI] at h
      obtain ⟨p, h1, h⟩ := Oc.bind_eq_ok h
      obtain ⟨q, h2, h⟩ := Oc.bind_eq_ok h
      have i1 := sE a g hc.2.2.2.1 h1
      have i2 := sE b g hc.2.2.2.2 h2
      have n1 := notStar_ea (es := []) (env := X.env) hc.2.2.1
      split at h
      · rename_i xs ys e1 e2
        cases h
        exact ei_zipA (ea_cons i1 (ea_cons i2 ea_nil n1) (notStar_ea hc.2.1)) (.inl ⟨e1, e2⟩) hm hg (notStar_ea hc.2.1) (by rw [n1]; rfl)
      · rename_i xs ys e1 e2
        cases h
        exact ei_zipA (ea_cons i1 (ea_cons i2 ea_nil n1) (notStar_ea hc.2.1)) (.inr ⟨e1, e2⟩) hm hg (notStar_ea hc.2.1) (by rw [n1]; rfl)
      · cases h
    · cases hc
  | .zip3 a b d, X, c, g, tg, x, hc, s, s', ds, h => by
    unfold chkI at hc; split at hc
    · simp only [Bool.and_eq_true] at hc
      obtain ⟨rfl, hg, hm, hd1, hn⟩ := g.bl hc.1
      obtain ⟨_, m1, m2, m3, k1, k2, k3⟩ := hc
      simp only [denI] at h
      obtain ⟨p, h1, h⟩ := Oc.bind_eq_ok h
      obtain ⟨q, h2, h⟩ := Oc.bind_eq_ok h
      obtain ⟨r, h3, h⟩ := Oc.bind_eq_ok h
      have i1 := sE a g k1 h1
      have i2 := sE b g k2 h2
      have i3 := sE d g k3 h3
      have n3 := notStar_ea (es := []) (env := X.env) m3
      split at h
      · rename_i xs ys zs e1 e2 e3
        split at h
        · rename_i hl
          cases h
          rw [e1] at i1
          rw [e2] at i2
          rw [e3] at i3
          exact ei_zip3 (ea_cons i1 (ea_cons i2 (ea_cons i3 ea_nil n3) (notStar_ea m2)) (notStar_ea m1)) hl.1 hl.2 hm hg (notStar_ea m1) (by rw [notStar_ea m2, n3]; rfl)
        · cases h
      · cases h
    · cases hc
  | .vals a, X, c, g, tg, x, hc, s, s', ds, h => by
    unfold chkI at hc; split at hc
    · simp only [Bool.and_eq_true] at hc
      obtain ⟨e1, hl, hn, k1⟩ := hc
      have := eq_of_beq e1; subst this
      simp only [denI] at h
      obtain ⟨p, h1, h⟩ := Oc.bind_eq_ok h
      have ih := sE a g k1 h1
      split at h
      · rename_i kvs e2
        cases h
        rw [dictV_k e2] at ih
        exact ei_values ih (notCall_ab hn) hl
      · cases h
    · cases hc
  | .items a, X, c, g, tg, x, hc, s, s', ds, h => by
    unfold chkI at hc; split at hc
    · simp only [Bool.and_eq_true] at hc
      obtain ⟨e1, hl, hn, k1⟩ := hc
      have := eq_of_beq e1; subst this
      simp only [denI] at h
      obtain ⟨p, h1, h⟩ := Oc.bind_eq_ok h
      have ih := sE a g k1 h1
      split at h
      · rename_i kvs e2
        cases h
        rw [dictV_k e2] at ih
        exact ei_items ih (notCall_ab hn) hl
      · cases h
    · cases hc
end
end
end Ewl
-- RD10
set_option Elab.async false
set_option linter.all false
set_option maxRecDepth 100000
set_option maxHeartbeats 8000000
namespace Ewl
open PySem L2
section
variable {X : Cx} {e a b : Expr} {es : List Expr} {s0 s1 s2 : List Sl} {d z : PyData} {ds : List PyData} {pos p p2 p3 : Pos} {i k : Nat} {x y : Str}
theorem en_get {K : PySem.W.Frag} {G₀ H₀ G H : Hp} {σ : L2.St} {s : List Sl} (E : En K G₀ H₀ G H σ s) {i : Nat} {v : V} (h : σ[i]? = some (some v)) : True := trivial
/-- what is read without a trace -/
theorem denQ_ok {c : Ck} {tb : List Fk} {gi : List (Str × Int)} (g : Good X c tb gi) : ∀ (e : E) {x : Expr} (_ : chkE c e x = true) {s : Sls} {d : PyData} (_ : denQ s e = .ok d), EvQ X x s d
  | .var i, x, hc, s, d, h => by
    unfold chkE at hc; split at hc
    · obtain ⟨a, b, f, k⟩ := g.nm hc
      unfold denQ at h; split at h
      · rename_i e; cases h; exact eq_var e a b f k
      · cases h
    · cases hc
  | .int n, x, hc, s, d, h => by
    obtain ⟨k, p, rfl⟩ := isIntC_of (show isIntC n x = true from hc)
    cases h; exact eq_int
  | .ix a b, x, hc, s, d, h => by
    unfold chkE at hc; split at hc
    · simp only [Bool.and_eq_true] at hc
      simp only [denQ] at h
      obtain ⟨p, h1, h⟩ := Oc.bind_eq_ok h
      obtain ⟨q, h2, h⟩ := Oc.bind_eq_ok h
      obtain ⟨xs, h3, h⟩ := Oc.bind_eq_ok h
      obtain ⟨k, h4, h⟩ := Oc.bind_eq_ok h
      have i1 := denQ_ok g a hc.2.1 h1
      have i2 := denQ_ok g b hc.2.2 h2
      rw [tupD_ok h3] at i1
      rw [intD_ok h4] at i2
      exact eq_ixT i1 i2 (ofO_ok h) (notSlice_ix hc.1)
    · cases hc
  | .ixv i b, x, hc, s, d, h => by
    unfold chkE at hc; split at hc
    · simp only [Bool.and_eq_true] at hc
      obtain ⟨a1, b1, f1, k1⟩ := g.nm hc.2.1
      simp only [denQ] at h
      obtain ⟨p, h1, h⟩ := Oc.bind_eq_ok h
      obtain ⟨q, h2, h⟩ := Oc.bind_eq_ok h
      obtain ⟨xs, h3, h⟩ := Oc.bind_eq_ok h
      obtain ⟨k, h4, h5⟩ := Oc.bind_eq_ok h
      have i2 := denQ_ok g b hc.2.2 h2
      rw [intD_ok h4] at i2
      split at h1
      · rename_i e
        cases h1
        have e2 := tupD_ok h3
        subst e2
        exact eq_ixT (eq_var e a1 b1 f1 k1) i2 (ofO_ok h5) (notSlice_ix hc.1)
      · cases h1
    · cases hc
  | .bl _, x, hc, s, d, h => by cases h
  | .str _, x, hc, s, d, h => by cases h
  | .non, x, hc, s, d, h => by cases h
  | .glb _, x, hc, s, d, h => by cases h
  | .bin _ _ _, x, hc, s, d, h => by cases h
  | .neg _, x, hc, s, d, h => by cases h
  | .cmp _ _ _, x, hc, s, d, h => by cases h
  | .chain _ _ _ _ _, x, hc, s, d, h => by cases h
  | .notE _, x, hc, s, d, h => by cases h
  | .ands _, x, hc, s, d, h => by cases h
  | .ors _, x, hc, s, d, h => by cases h
  | .ite _ _ _, x, hc, s, d, h => by cases h
  | .tup _, x, hc, s, d, h => by cases h
  | .fz _, x, hc, s, d, h => by cases h
  | .lenv _, x, hc, s, d, h => by cases h
  | .bi _ _, x, hc, s, d, h => by cases h
  | .call _ _, x, hc, s, d, h => by cases h
  | .callS _ _ _, x, hc, s, d, h => by cases h
  | .slT _ _ _, x, hc, s, d, h => by cases h
  | .tyIs _ _ _, x, hc, s, d, h => by cases h
  | .tyIn _ _ _ _, x, hc, s, d, h => by cases h
  | .bk _ _ _, x, hc, s, d, h => by cases h
  | .inn _ _ _, x, hc, s, d, h => by cases h
  | .innv _ _ _, x, hc, s, d, h => by cases h
theorem asgS_no {ew ep : Expr} {env : Env} (hh : notSlice ep = true) (v : Value) : assign (.Subscript (.Subscript (.Name x p) ew p2) ep p3) env v = (do
      let ov ← holding [v] (eval (.Subscript (.Name x p) ew p2) env)
      let iv ← holding [v, ov] (eval ep env)
      standAt p3
      holding [v, ov, iv] (setItem ov iv v)
      release [v, ov, iv] []) := by
  cases ep <;> first | rfl | cases hh
theorem sw_cell {v : Expr} {t : Str} {pt : Pos} {l : Nat} {env : Env} (h : env.scope.names.lookup t = some .cell) : swapsWith v (some (.Name t pt)) l env = pure false := by
  have e : env.kindOf t = some .cell := h
  have e3 : (NameKind.cell == NameKind.local) = false := by decide
  cases v <;> first | rfl | (unfold swapsWith; simp [e, e3])
theorem sub_sw {a b v : Expr} {pa : Pos} {env : Env} : swappedStores [.Subscript a b pa] v env = pure none := by cases v <;> rfl
theorem notComp_sole {tg : Expr} {l : Nat} {env : Env} (h : notComp e = true) : swapsWithSole [tg] e l env = pure false := by
  show swapsWith e (some tg) l env = pure false
  exact notComp_sw h
end
section
variable {tb : List Fk} {gi : List (Str × Int)}
theorem sMs : ∀ (ms : Ms) {X : Cx} {c : Ck} (_ : Good X c tb gi) {xs : List Expr} (_ : chkMs c ms xs = true) {s s' : Sls} {vs : List Sl} (_ : denMs tb gi ms s = .ok (s', vs)), EvM X xs s s' vs
  | .nil, X, c, g, xs, hc, s, s', vs, h => by
    cases xs with
    | nil => cases h; exact em_nil
    | cons _ _ => cases hc
  | .e e ms, X, c, g, xs, hc, s, s', vs, h => by
    unfold chkMs at hc; split at hc
    · simp only [Bool.and_eq_true] at hc
      simp only [denMs] at h
      obtain ⟨p, h1, h⟩ := Oc.bind_eq_ok h
      obtain ⟨q, h2, h⟩ := Oc.bind_eq_ok h
      cases h
      exact em_e (sE e g hc.2.1 h1) (sMs ms g hc.2.2 h2) hc.1
    · cases hc
  | .l l ms, X, c, g, xs, hc, s, s', vs, h => by
    unfold chkMs at hc; split at hc
    · simp only [Bool.and_eq_true] at hc
      simp only [denMs] at h
      obtain ⟨p, h1, h⟩ := Oc.bind_eq_ok h
      obtain ⟨q, h2, h⟩ := Oc.bind_eq_ok h
      cases h
      exact em_l (sL l g hc.2.1 h1) (sMs ms g hc.2.2 h2) hc.1
    · cases hc
  | .t ms, X, c, g, xs, hc, s, s', vs, h => by
    unfold chkMs at hc; split at hc
    · simp only [denMs] at h
      obtain ⟨q, h2, h⟩ := Oc.bind_eq_ok h
      cases h
      exact em_t (sMs ms g hc h2)
    · cases hc
/-- a comprehension given to a name -/
theorem sLn (l : L) {X : Cx} {c : Ck} (g : Good X c tb gi) {i : Nat} {x : Str} {p q pos : Pos} {elt : Expr} {gs : List Comprehension} {scope : Scope} (hc : chkL c l (.ListComp elt gs scope q) = true) (hi : loB c i x = true) (hl : c.sc.names.lookup x = some .local) (hk : c.sc.kind = .function)
    (hp : (p.line == q.line) = true) (ha : (scope.names.any fun (n, k) => n == x && (k == .local || k == .cell)) = false) (hm : l.lcs = true) {s s' : Sls} {ds : List PyData} (h : denL tb gi l s = .ok (s', ds)) (hlt : i < s'.length) : St1 X (.Assign [.Name x p] (.ListComp elt gs scope q) pos) s (.nx (s'.set i (.l ds))) := by
  obtain ⟨hN, hx, hf⟩ := g.lo hi
  have hxl : X.env.scope.names.lookup x = some .local := by rw [g.sc]; exact hl
  have hkk : X.env.scope.kind = .function := by rw [g.sc]; exact hk
  have hsw := sw_true (elt := elt) (gs := gs) (scope := scope) (pos := q) (py := p) (y := x) (l := pos.line) (env := X.env) hkk hxl hp ha
  cases l with
  | lc own gg it el =>
    unfold chkL at hc; split at hc
    · rename_i e; cases e
      simp only [Bool.and_eq_true] at hc
      obtain ⟨hb, ho, hn, k1, k2, k3⟩ := hc
      simp only [denL] at h
      obtain ⟨p, h1, h⟩ := Oc.bind_eq_ok h
      split at h
      · rename_i hl
        obtain ⟨hlen, S, S0, Se, f⟩ := lcF_at h
        have ho := ownN_snd ho
        have hb := blkOk_of hb
        rw [← g.N, ← g.sc] at hb
        have hi := sI it g k1 h1
        rw [← Se] at hlt ⊢
        refine st_lc (own := ownN c.N own) hi (by rw [g.N] at hb ⊢; exact hb) (by rw [ho]; exact S0) hlen hl.1 (fun i d y hd hy => ?_) g.nd hN hlt hxl hsw g.calm (notSet_fold hn)
        obtain ⟨m', h2, hw⟩ := f i d y hd hy
        obtain ⟨m, h3, h4⟩ := Oc.bind_eq_ok h2
        refine ⟨m, tsG gg, m', by rw [ho]; exact hl.2, by rw [ho]; exact hw, fun s1 H1 C1 cl1 fp1 => ⟨sG gg (g.blk _ s1 H1 C1 cl1 fp1) k2 h3, sE el (g.blk _ s1 H1 C1 cl1 fp1) k3 h4⟩⟩
      · cases h
    · cases hc
  | lcIf own gg it t el =>
    unfold chkL at hc; split at hc
    · rename_i e; cases e
      simp only [Bool.and_eq_true] at hc
      obtain ⟨hb, ho, hn, k1, k2, k3, k4⟩ := hc
      simp only [denL] at h
      obtain ⟨p, h1, h⟩ := Oc.bind_eq_ok h
      split at h
      · rename_i hl
        obtain ⟨zs, ez, hlen, S, S0, Se, f⟩ := lcIfF_at h
        have ho := ownN_snd ho
        have hb := blkOk_of hb
        rw [← g.N, ← g.sc] at hb
        have hi := sI it g k1 h1
        rw [← Se] at hlt ⊢
        rw [← ez]
        refine st_lcIf (own := ownN c.N own) hi (by rw [g.N] at hb ⊢; exact hb) (by rw [ho]; exact S0) hlen hl.1 (fun i d y hd hy => ?_) g.nd hN hlt hxl hsw g.calm (notSet_fold hn)
        obtain ⟨m', h2, hw⟩ := f i d y hd hy
        obtain ⟨m, h3, h4⟩ := Oc.bind_eq_ok h2
        obtain ⟨u, h5, h6⟩ := Oc.bind_eq_ok h4
        obtain ⟨u1, u2⟩ := u
        cases u2 with
        | true =>
          obtain ⟨w, h7, h8⟩ := Oc.bind_eq_ok h6
          cases h8
          exact ⟨m, tsG gg, u1, _, by rw [ho]; exact hl.2, by rw [ho]; exact hw, fun s1 H1 C1 cl1 fp1 => ⟨sG gg (g.blk _ s1 H1 C1 cl1 fp1) k2 h3, sT t (g.blk _ s1 H1 C1 cl1 fp1) k3 h5, fun y e => by cases e; exact sE el (g.blk _ s1 H1 C1 cl1 fp1) k4 h7, fun e => by cases e⟩⟩
        | false =>
          cases h6
          exact ⟨m, tsG gg, u1, u1, by rw [ho]; exact hl.2, by rw [ho]; exact hw, fun s1 H1 C1 cl1 fp1 => ⟨sG gg (g.blk _ s1 H1 C1 cl1 fp1) k2 h3, sT t (g.blk _ s1 H1 C1 cl1 fp1) k3 h5, (fun y e => nomatch e), fun e => rfl⟩⟩
      · cases h
    · cases hc
  | _ => cases hm
mutual
theorem sS : ∀ (st : S) {X : Cx} {c : Ck} (_ : Good X c tb gi) {x : Stmt} (_ : chkS c st x = true) {s : Sls} {r : Res} (_ : denS tb gi st s = .ok r), St1 X x s r
  | .asg i e, X, c, g, x, hc, s, r, h => by
    unfold chkS at hc; split at hc
    · simp only [Bool.and_eq_true] at hc
      simp only [denS] at h
      obtain ⟨p, h1, h⟩ := Oc.bind_eq_ok h
      obtain ⟨q, h2, h⟩ := Oc.bind_eq_ok h
      cases h
      obtain ⟨hl, rfl⟩ := setS_ok h2
      obtain ⟨hN, hx, hf⟩ := g.lo hc.1
      exact st_asg (sE e g hc.2.2 h1) hN hl g.nd hx (notComp_sw hc.2.1) hf
    · cases hc
  | .asgL i l, X, c, g, x, hc, s, r, h => by
    unfold chkS at hc; split at hc
    · rename_i nm pp v pos
      simp only [Bool.and_eq_true] at hc
      simp only [denS] at h
      obtain ⟨p, h1, h⟩ := Oc.bind_eq_ok h
      obtain ⟨q, h2, h⟩ := Oc.bind_eq_ok h
      cases h
      obtain ⟨hl, rfl⟩ := setS_ok h2
      obtain ⟨hlo, hk, hr⟩ := hc
      rw [Bool.or_eq_true, Bool.or_eq_true] at hr
      rcases hr with (hr | hr) | hr
      · obtain ⟨hN, hx, hf⟩ := g.lo hlo
        exact st_asgL (sL l g hk h1) hN hl g.nd hx (notComp_sw hr) hf
      · obtain ⟨hN, hx, hf⟩ := g.lo hlo
        exact st_asgL (sL l g hk h1) hN hl g.nd hx (sw_cell (by rw [g.sc]; exact eq_of_beq hr)) hf
      · simp only [Bool.and_eq_true] at hr
        obtain ⟨hr0, hr1, hr2, hr3⟩ := hr
        split at hr3
        · simp only [Bool.and_eq_true, Bool.not_eq_true'] at hr3
          exact sLn l g hk hlo (eq_of_beq hr1) (eq_of_beq hr2) hr3.1 hr3.2 hr0 h1 hl
        · cases hr3
    · cases hc
  | .asgLL i own gg it l, X, c, g, x, hc, s, r, h => by
    unfold chkS at hc; split at hc
    · rename_i nm pp y tg iter scope q pos
      simp only [Bool.and_eq_true, Bool.not_eq_true'] at hc
      obtain ⟨hlo, ⟨hl1, ha⟩, hk, hb, ho, hn, k1, k2, k3⟩ := hc
      simp only [denS] at h
      obtain ⟨p, h1, h⟩ := Oc.bind_eq_ok h
      split at h
      · rename_i hl
        obtain ⟨q, h2, h⟩ := Oc.bind_eq_ok h
        obtain ⟨t, h3, h⟩ := Oc.bind_eq_ok h
        cases h
        obtain ⟨hlt, rfl⟩ := setS_ok h3
        obtain ⟨hN, hxl⟩ := g.lc1 hlo
        obtain ⟨hlen, S, S0, Se, f⟩ := lcLF_at h2
        have ho := ownN_snd ho
        have hb := blkOk_of hb
        rw [← g.N, ← g.sc] at hb
        have hi := sI it g k1 h1
        rw [← Se] at hlt ⊢
        refine st_lcLL (own := ownN c.N own) hi (by rw [g.N] at hb ⊢; exact hb) (by rw [ho]; exact S0) hlen hl.1 (fun i d y hd hy => ?_) g.nd hN hlt hxl (sw_true (by rw [g.sc]; exact eq_of_beq hk) hxl hl1 ha) g.calm (notSet_fold hn)
        obtain ⟨m', h2, hw⟩ := f i d y hd hy
        obtain ⟨m, h3, h4⟩ := Oc.bind_eq_ok h2
        refine ⟨m, tsG gg, m', by rw [ho]; exact hl.2, by rw [ho]; exact hw, fun s1 H1 C1 cl1 fp1 => ⟨sG gg (g.blk _ s1 H1 C1 cl1 fp1) k2 h3, sL l (g.blk _ s1 H1 C1 cl1 fp1) k3 h4⟩⟩
      · cases h
    · cases hc
  | .asgT gg e, X, c, g, x, hc, s, r, h => by
    unfold chkS at hc; split at hc
    · simp only [Bool.and_eq_true] at hc
      obtain ⟨k1, k2, k3, k4⟩ := hc
      simp only [denS] at h
      obtain ⟨p, h1, h⟩ := Oc.bind_eq_ok h
      obtain ⟨q, h2, h⟩ := Oc.bind_eq_ok h
      cases h
      refine st_asgT (sE e g k3 h1) (sG gg g k1 h2) (notComp_sole k2) ?_ rfl
      split at k4
      · simp only [Bool.and_eq_true] at k4
        exact sw_eq (by rw [g.sc]; exact eq_of_beq k4.1) (by rw [g.sc]; exact eq_of_beq k4.2)
      · exact notTup_sw k4
    · cases hc
  | .par is ms, X, c, g, x, hc, s, r, h => by
    unfold chkS at hc; split at hc
    · simp only [Bool.and_eq_true] at hc
      obtain ⟨k1, k2, k3, k4, k5, k6⟩ := hc
      simp only [denS] at h
      obtain ⟨p, h1, h⟩ := Oc.bind_eq_ok h
      obtain ⟨q, h2, h⟩ := Oc.bind_eq_ok h
      cases h
      exact st_parM (sMs ms g k6 h1) h2 g.calm (by rw [g.sc]; exact eq_of_beq k1) g.nd k2 (eq_of_beq k3) (by rw [g.sc]; exact eq_of_beq k4) (by rw [g.N]) (by rw [g.N]; exact eq_of_beq k5)
    · cases hc
  | .app i e, X, c, g, x, hc, s, r, h => by
    unfold chkS at hc; split at hc
    · simp only [Bool.and_eq_true] at hc
      obtain ⟨k1, k2, k3, k4, k5⟩ := hc
      have := eq_of_beq k1; subst this
      obtain ⟨hN, hv, hd, hcd⟩ := g.nm k3
      simp only [denS] at h
      obtain ⟨w, h1, h⟩ := Oc.bind_eq_ok h
      obtain ⟨p, h2, h⟩ := Oc.bind_eq_ok h
      obtain ⟨ys, h3, h⟩ := Oc.bind_eq_ok h
      split at h
      · rename_i hl
        cases h
        exact st_appV hN (rdL_ok h1) (sE e g k5 h2) (rdL_ok h3) hl hv hd hcd k4 k2
      · cases h
    · cases hc
  | .ext i e, X, c, g, x, hc, s, r, h => by
    unfold chkS at hc; split at hc
    · simp only [Bool.and_eq_true] at hc
      obtain ⟨k1, k2, k3, k4, k5⟩ := hc
      have := eq_of_beq k1; subst this
      obtain ⟨hN, hv, hd, hcd⟩ := g.nm k3
      simp only [denS] at h
      obtain ⟨w, h1, h⟩ := Oc.bind_eq_ok h
      obtain ⟨p, h2, h⟩ := Oc.bind_eq_ok h
      obtain ⟨ys, h3, h⟩ := Oc.bind_eq_ok h
      obtain ⟨zs, h4, h⟩ := Oc.bind_eq_ok h
      split at h
      · rename_i hl
        cases h
        exact st_extV hN (rdL_ok h1) (sE e g k5 h2) ((seqD_ok h4).symm) (rdL_ok h3) hl hv hd hcd k4 k2
      · cases h
    · cases hc
  | .popAt j i e, X, c, g, x, hc, s, r, h => by
    unfold chkS at hc; split at hc
    · simp only [Bool.and_eq_true] at hc
      obtain ⟨k1, k2, k3, k4, k5, k6⟩ := hc
      have := eq_of_beq k1; subst this
      obtain ⟨hN, hv, hd, hcd⟩ := g.nm k4
      obtain ⟨hNj, hy, hf⟩ := g.lo k3
      simp only [denS] at h
      obtain ⟨w, h1, h⟩ := Oc.bind_eq_ok h
      obtain ⟨p, h2, h⟩ := Oc.bind_eq_ok h
      obtain ⟨ys, h3, h⟩ := Oc.bind_eq_ok h
      obtain ⟨k, h4, h⟩ := Oc.bind_eq_ok h
      split at h
      · rename_i hl
        obtain ⟨d, h5, h⟩ := Oc.bind_eq_ok h
        obtain ⟨t, h6, h⟩ := Oc.bind_eq_ok h
        cases h
        obtain ⟨hlt, rfl⟩ := setS_ok h6
        rw [List.length_set] at hlt
        have ih := sE e g k6 h2
        rw [intD_ok h4] at ih
        exact st_popV hN (rdL_ok h1) ih (rdL_ok h3) hl.1 hl.2 (ofO_ok h5) hNj hlt g.nd hy hv hd hcd k5 k2 hf
      · cases h
    · cases hc
  | .ret e, X, c, g, x, hc, s, r, h => by
    unfold chkS at hc; split at hc
    · simp only [denS] at h
      obtain ⟨p, h1, h⟩ := Oc.bind_eq_ok h
      cases h
      exact st_ret (sE e g hc h1)
    · cases hc
  | .ret0, X, c, g, x, hc, s, r, h => by
    unfold chkS at hc; split at hc
    · cases h
      exact .mk fun {G₀ H₀ G H σ} E D k => WS.of ps_retN (k _ _ G H E (Ex.refl G) .non)
    · cases hc
  | .ife t a b, X, c, g, x, hc, s, r, h => by
    unfold chkS at hc; split at hc
    · simp only [Bool.and_eq_true] at hc
      simp only [denS] at h
      obtain ⟨p, h1, h⟩ := Oc.bind_eq_ok h
      have i1 := sT t g hc.1 h1
      obtain ⟨p1, p2⟩ := p
      cases p2 with
      | true => exact st_ifT i1 (sSs a g hc.2.1 h)
      | false => exact st_ifF i1 (sSs b g hc.2.2 h)
    · cases hc
  | .for_ gg it b, X, c, g, x, hc, s, r, h => by
    unfold chkS at hc; split at hc
    · simp only [Bool.and_eq_true] at hc
      obtain ⟨k1, k2, k3, k4⟩ := hc
      simp only [denS] at h
      obtain ⟨p, h1, h⟩ := Oc.bind_eq_ok h
      have i1 := sI it g k2 h1
      obtain ⟨S, S0, q⟩ := forF_at h
      have e0 : p.1 = S 0 := S0.symm
      rw [e0] at i1
      rcases q with ⟨e, f⟩ | ⟨i₀, t, z, hi, e, f, gg'⟩
      · subst e
        refine st_for i1 (fun i d hd => ?_) g.calm g.pass (notSet_fold k1)
        obtain ⟨m, h2, h3⟩ := Oc.bind_eq_ok (f i d hd)
        exact ⟨m, _, sG gg g k3 h2, sSs b g k4 h3⟩
      · subst e
        refine st_forR i1 hi (fun i d hlt hd => ?_) (fun d hd => ?_) g.calm g.pass (notSet_fold k1)
        · obtain ⟨m, h2, h3⟩ := Oc.bind_eq_ok (f i d hlt hd)
          exact ⟨m, _, sG gg g k3 h2, sSs b g k4 h3⟩
        · obtain ⟨m, h2, h3⟩ := Oc.bind_eq_ok (gg' d hd)
          exact ⟨m, _, sG gg g k3 h2, sSs b g k4 h3⟩
    · cases hc
  | .whl t b, X, c, g, x, hc, s, r, h => by
    unfold chkS at hc; split at hc
    · simp only [Bool.and_eq_true] at hc
      obtain ⟨n, S, M, u, S0, e, f, h2⟩ := whlN_at (show whlN _ _ fuel s = .ok r from h)
      subst e
      rw [← S0]
      exact st_while (fun i hi => ⟨sT t g hc.1 (f i hi).1, sSs b g hc.2 (f i hi).2⟩) (sT t g hc.1 h2) g.pass
    · cases hc
  | .ex e, X, c, g, x, hc, s, r, h => by
    unfold chkS at hc; split at hc
    · simp only [Bool.and_eq_true] at hc
      simp only [denS] at h
      obtain ⟨p, h1, h⟩ := Oc.bind_eq_ok h
      cases h
      exact st_drop (sE e g hc.2 h1) (notComp_sw hc.1)
    · cases hc
  | .putK i k e, X, c, g, x, hc, s, r, h => by
    unfold chkS at hc; split at hc
    · simp only [Bool.and_eq_true] at hc
      obtain ⟨k1, k2, k3, k4⟩ := hc
      have := eq_of_beq k1; subst this
      obtain ⟨hN, hv, hd, hcd⟩ := g.nm k2
      simp only [denS] at h
      obtain ⟨p, h1, h⟩ := Oc.bind_eq_ok h
      obtain ⟨w, h2, h⟩ := Oc.bind_eq_ok h
      split at h
      · rename_i hl
        cases h
        exact st_putK hN (sE e g k4 h1) (rdK_ok h2) hl g.u1 hv hd hcd k3
      · cases h
    · cases hc
  | .putT i k e, X, c, g, x, hc, s, r, h => by
    unfold chkS at hc; split at hc
    · simp only [Bool.and_eq_true] at hc
      obtain ⟨k1, k2, k3, k5, k6⟩ := hc
      obtain ⟨hN, hv, hd, hcd⟩ := g.nm k1
      simp only [denS] at h
      obtain ⟨p, h1, h⟩ := Oc.bind_eq_ok h
      obtain ⟨w, h2, h⟩ := Oc.bind_eq_ok h
      obtain ⟨q, h3, h⟩ := Oc.bind_eq_ok h
      obtain ⟨ks, h4, h⟩ := Oc.bind_eq_ok h
      obtain ⟨w2, h5, h⟩ := Oc.bind_eq_ok h
      split at h
      · rename_i hl
        cases h
        have ih := sE k g k5 h3
        rw [tkey_of (ofO_ok h4)] at ih
        exact st_putT hN (sE e g k6 h1) ih (rdT_ok h2) (rdT_ok h5) hl g.u1 hv hd hcd k3
      · cases h
    · cases hc
  | .newT i, X, c, g, x, hc, s, r, h => by
    unfold chkS at hc; split at hc
    · simp only [denS] at h
      obtain ⟨t, h1, h⟩ := Oc.bind_eq_ok h
      cases h
      obtain ⟨hl, rfl⟩ := setS_ok h1
      obtain ⟨hN, hx, hf⟩ := g.lo hc
      exact st_newT hN hl g.nd hx rfl hf
    · cases hc
  | .asgK i k es, X, c, g, x, hc, s, r, h => by
    unfold chkS at hc; split at hc
    · simp only [Bool.and_eq_true] at hc
      obtain ⟨k1, k2, k3, k4, k5⟩ := hc
      simp only [denS] at h
      obtain ⟨p, h1, h⟩ := Oc.bind_eq_ok h
      obtain ⟨kvs, h2, h⟩ := Oc.bind_eq_ok h
      obtain ⟨t, h3, h⟩ := Oc.bind_eq_ok h
      cases h
      obtain ⟨hl, rfl⟩ := setS_ok h3
      obtain ⟨hN, hx, hf⟩ := g.lo k1
      obtain ⟨ih, hs, _⟩ := sEs es g k5 h1
      obtain ⟨f, j, hff, hr, F⟩ := callKD_ok g (here_ok h2) (eq_of_beq k2)
      rw [List.all_cons, Bool.and_eq_true] at hs
      exact st_asgKR F hr g.gd ih hff hN hl g.nd hx (g.gl k3) (odd_of k4).1 (notStar_ea hs.1) (star_plain hs.2) hf
    · cases hc
  | .setLL i w p e, X, c, g, x, hc, s, r, h => by
    unfold chkS at hc; split at hc
    · simp only [Bool.and_eq_true] at hc
      obtain ⟨k1, k2, k3, k4, k6, k7, k8⟩ := hc
      obtain ⟨hN, hv, hd, hcd⟩ := g.nm k1
      simp only [denS] at h
      obtain ⟨q, h1, h⟩ := Oc.bind_eq_ok h
      obtain ⟨xss, h2, h⟩ := Oc.bind_eq_ok h
      obtain ⟨a, h3, h⟩ := Oc.bind_eq_ok h
      obtain ⟨b, h4, h⟩ := Oc.bind_eq_ok h
      obtain ⟨m, h5, h⟩ := Oc.bind_eq_ok h
      obtain ⟨n, h6, h⟩ := Oc.bind_eq_ok h
      split at h
      · rename_i hp
        obtain ⟨xs, h7, h⟩ := Oc.bind_eq_ok h
        split at h
        · rename_i hlt
          cases h
          have q1 := denQ_ok g w k6 h3
          have q2 := denQ_ok g p k7 h4
          rw [intD_ok h5] at q1
          rw [intD_ok h6] at q2
          have em : m = ((m.toNat : Nat) : Int) := (Int.toNat_of_nonneg hp.1).symm
          have en : n = ((n.toNat : Nat) : Int) := (Int.toNat_of_nonneg hp.2).symm
          rw [em] at q1
          rw [en] at q2
          exact st_setLL hN (sE e g k8 h1) (rdLL_ok h2) q1 q2 (ofO_ok h7) hlt hv hd hcd (notSlice_ix k2) (asgS_no k3) (notComp_sole k4) (sub_sw) rfl
        · cases h
      · cases h
    · cases hc
  | .pass, X, c, g, x, hc, s, r, h => by
    unfold chkS at hc; split at hc
    · cases h; exact st_pass
    · cases hc
  | .tryT b, X, c, g, x, hc, s, r, h => by
    unfold chkS at hc; split at hc
    · simp only [denS] at h
      exact st_try (sSs b g hc h) g.nx
    · cases hc
  | .bad, X, c, g, x, hc, s, r, h => by cases h
theorem sSs : ∀ (ss : Ss) {X : Cx} {c : Ck} (_ : Good X c tb gi) {xs : List Stmt} (_ : chkSs c ss xs = true) {s : Sls} {r : Res} (_ : denSs tb gi ss s = .ok r), Sv X xs s r
  | .nil, X, c, g, xs, hc, s, r, h => by
    cases xs with
    | nil => cases h; exact sv_nil
    | cons _ _ => cases hc
  | .cons st ss, X, c, g, xs, hc, s, r, h => by
    unfold chkSs at hc; split at hc
    · simp only [Bool.and_eq_true] at hc
      simp only [denSs] at h
      obtain ⟨q, h1, h⟩ := Oc.bind_eq_ok h
      have i1 := sS st g hc.1 h1
      cases q with
      | nx s1 => exact sv_nx i1 (sSs ss g hc.2 h)
      | ret s1 z => cases h; exact sv_ret i1
    · cases hc
end
end
end Ewl
-- RD11
set_option Elab.async false
set_option linter.all false
set_option maxRecDepth 100000
set_option maxHeartbeats 8000000
/-! Defs by their trees. -/
namespace Ewl
open PySem L2 PyProof.Rows
noncomputable section
/-- what a def does: n names, p of them its parameters -/
def outD : Oc Res → Oc PyData
  | .ok (.ret _ z) => .ok z
  | .ok (.nx _) => .ok .none
  | .ex _ x => .ex [] x
  | .un => .un
def runD (tb : List Fk) (gi : List (Str × Int)) (n p : Nat) (body : Ss) (ds : List PyData) : Oc PyData :=
  if ds.length = p then outD (denSs tb gi body (ds.map Sl.d ++ List.replicate (n - ds.length) Sl.x)) else .un
/-- what it leaves in the dict that it is given, and hands back -/
def outS : Oc Res → Oc (List (Key × PyData) × PyData)
  | .ok (.ret s z) => rdK s 0 >>= fun w => .ok (w.2, z)
  | .ok (.nx s) => rdK s 0 >>= fun w => .ok (w.2, .none)
  | .ex _ x => .ex [] x
  | .un => .un
def isP0 (a : Addr) (s : Sls) : Bool :=
  match (s[0]? : Option Sl) with
  | some (.dk o _) => o == some a
  | _ => false
def isP (a : Addr) : Oc Res → Bool
  | .ok (.ret s _) => isP0 a s
  | .ok (.nx s) => isP0 a s
  | _ => true
def runS (tb : List Fk) (gi : List (Str × Int)) (n p : Nat) (body : Ss) (a : Addr) (kvs : List (Key × PyData)) (ds : List PyData) : Oc (List (Key × PyData) × PyData) :=
  if ds.length + 1 = p ∧ isP a (denSs tb gi body (.dk (some a) kvs :: (ds.map Sl.d ++ List.replicate (n - (ds.length + 1)) Sl.x))) = true then outS (denSs tb gi body (.dk (some a) kvs :: (ds.map Sl.d ++ List.replicate (n - (ds.length + 1)) Sl.x))) else .un
/-- a def that hands back a new dict of three texts -/
def runK (tb : List Fk) (gi : List (Str × Int)) (n p : Nat) (k1 k2 k3 : Str) (es : Es) (ds : List PyData) : Oc (List (Key × PyData)) :=
  if ds.length = p then denEs tb gi es (ds.map Sl.d ++ List.replicate (n - ds.length) Sl.x) >>= fun q => match q.2 with
    | [x, y, z] => .ok [(Sum.inr k1, x), (Sum.inr k2, y), (Sum.inr k3, z)]
    | _ => .un
  else .un
end
def chkK (c : Ck) (k1 k2 k3 : Str) (es : Es) : List Stmt → Bool
  | [.Return (some (.Dict [some (.Constant (.str a) _ _), some (.Constant (.str b) _ _), some (.Constant (.str d) _ _)] xs _)) _] => a == k1 && (b == k2 && (d == k3 && (k1 != k2 && (k1 != k3 && (k2 != k3 && chkEs c es xs)))))
  | _ => false
def scopeB (N ps : List Str) (sc : Scope) : Bool :=
  sc.kind == .function && (!sc.isCoroutine && (!sc.isGenerator && (decide N.Nodup && (N.take ps.length == ps && ((ps.all fun x => sc.names.lookup x == some .local || sc.names.lookup x == some .cell) && (sc.names.all fun y => !(y.2 == .free)))))))
theorem scopeB_of {N ps : List Str} {sc : Scope} (h : scopeB N ps sc = true) : FnScope N ps sc := by
  unfold scopeB at h
  simp only [Bool.and_eq_true, Bool.not_eq_true', decide_eq_true_eq] at h
  obtain ⟨h1, h2, h3, h4, h5, h6, h7⟩ := h
  rw [List.all_eq_true] at h6 h7
  refine ⟨eq_of_beq h1, h2, h3, h4, eq_of_beq h5, fun x hx => ?_, fun y hy e => ?_⟩
  · have := h6 x hx
    rw [Bool.or_eq_true] at this
    rcases this with h | h
    · exact .inl (eq_of_beq h)
    · exact .inr (eq_of_beq h)
  · have := h7 y hy
    rw [e] at this
    cases this
/-- what the module's names hold -/
structure NamesOk (mg : Str → Option Value) (c : Ck) (gi : List (Str × Int)) : Prop where
  blt : ∀ x ∈ c.bs, mg x = none
  mth : ∀ x ∈ c.gs, (x = "gcd" ∨ x = "lcm") ∧ mg x = some (.builtin (mthId x))
  gi : ∀ (x : Str) (i : Int), gi.lookup x = some i → ∃ t, mg x = some (.int i t)
section
variable {P : Program} {w : World} {K : PySem.W.Frag} {mg : Str → Option Value} {base h : Heap}
def FkR (P : Program) (w : World) (K : PySem.W.Frag) (mg : Str → Option Value) (base : Heap) (x : Str) (n : Nat) : Fk → Prop
  | .dd f => FnR P w K mg base x n (spD K fun ds z => f ds = .ok z)
  | .ss f => FnR P w K mg base x n (spS K fun kvs ds kvs' z => ∀ p, f p kvs ds = .ok (kvs', z))
  | .kk f => FnR P w K mg base x n (spK K fun ds z => f ds = .ok z)
structure TabOk (P : Program) (w : World) (K : PySem.W.Frag) (mg : Str → Option Value) (base : Heap) (n : Nat) (fs : List Str) (tb : List Fk) : Prop where
  ok : ∀ (k : Nat) (x : Str) (fk : Fk), fs[k]? = some x → tb[k]? = some fk → ∃ j, j ≤ n ∧ FkR P w K mg base x j fk
theorem TabOk.nil {n : Nat} : TabOk P w K mg base n [] [] := ⟨fun k x fk h => by simp at h⟩
theorem TabOk.cons {n j : Nat} {x : Str} {fk : Fk} {fs : List Str} {tb : List Fk} (h : FkR P w K mg base x j fk) (hj : j ≤ n) (t : TabOk P w K mg base n fs tb) : TabOk P w K mg base n (x :: fs) (fk :: tb) := ⟨fun k y fk' h1 h2 => by
  cases k with
  | zero => simp at h1 h2; subst h1 h2; exact ⟨j, hj, h⟩
  | succ k => exact t.ok k y fk' (by simpa using h1) (by simpa using h2)⟩
theorem good_of {N : List Str} {qual : Str} {scope : Scope} {f : Addr} {cdv : Value} {A0 : Around} {outer : List Env} {s : Shared} {H : Hp} {E : XK} {c : Ck} {tb : List Fk} {gi : List (Str × Int)} {n : Nat}
    (hN : c.N = N) (hsc : c.sc = scope) (hfn : c.fnc = fun _ => true) (nd : N.Nodup) (hG : A0.guards = some []) (hr : Room n (A0.deeper (envOfC qual scope s.heap.objs.size f cdv))) (ev : NamesOk mg c gi) (tab : TabOk P w K mg base n c.fs tb) :
    Good (cxOf CX0 P w K mg base N qual scope f cdv A0 outer s H E).nox c tb gi where
  N := hN.symm
  sc := hsc.symm
  nd := nd
  fn := hfn.symm
  calm := rfl
  pass := PassesOwn.never
  nx := fun _ _ z => z
  gd := deeper_guards _ _ hG
  un := by have := hr.un; show (A0.deeper (envOfC qual scope s.heap.objs.size f cdv)).units + 64 < cLine; omega
  blt := ev.blt
  mth := ev.mth
  gi := ev.gi
  fns := fun k x fk h1 h2 => by
    obtain ⟨j, hj, F⟩ := tab.ok k x fk h1 h2
    cases fk with
    | dd f => exact ⟨j, hr.mono hj, F⟩
    | ss f => exact ⟨j, hr.mono hj, F⟩
    | kk f => exact ⟨j, hr.mono hj, F⟩
theorem at_D {x qual : Str} {st : Stmt} {f : Addr} {fd : FuncData} {ps : List Str} {c : Ck} {tb : List Fk} {gi : List (Str × Int)} {n : Nat} {body : Ss} (F : Fun K x qual st f fd) (S : FnScope c.N ps (defScope st)) (hsc : c.sc = defScope st) (hfn : c.fnc = fun _ => true) (hc : chkSs c body (defBody st) = true)
    (ev : NamesOk mg c gi) (tab : TabOk P w K mg base n c.fs tb) (A0 : Around) (hG : A0.guards = some []) (hr : Room (n + 1) A0) : FnAt A0 P w K mg base f fd ps (spD K fun ds z => runD tb gi c.N.length ps.length body ds = .ok z) := by
  refine fn_at hr F S (fun vs H Q E h => ?_) fun cdv outer s H vs Q E hr' h => ?_
  · obtain ⟨G, ds, z, _, r, hg, _⟩ := h
    rw [dpAll_len r]
    unfold runD at hg
    split at hg
    · rename_i hl; exact hl
    · cases hg
  · obtain ⟨G, ds, z, sx, r, hg, q⟩ := h
    unfold runD at hg
    split at hg
    · rename_i hl
      have g := good_of (s := s) (f := f) (qual := qual) (cdv := cdv) (outer := outer) (H := H) (E := E) rfl hsc hfn S.nd hG hr' ev tab
      cases hd : denSs tb gi body (ds.map Sl.d ++ List.replicate (c.N.length - ds.length) Sl.x) with
      | un => rw [hd] at hg; cases hg
      | ex _ _ => rw [hd] at hg; cases hg
      | ok rr =>
        rw [hd] at hg
        have sv := sSs body g hc hd
        cases rr with
        | ret sl z' =>
          cases hg
          exact sv (en_start sx r) _ fun v σ G' H' E' g' r' => q v G' H' E'.gw r'
        | nx sl =>
          cases hg
          exact sv (en_start sx r) _ fun σ G' H' E' g' => q .non G' H' E'.gw .non
    · cases hg
theorem at_S {x qual : Str} {st : Stmt} {f : Addr} {fd : FuncData} {ps : List Str} {c : Ck} {tb : List Fk} {gi : List (Str × Int)} {n : Nat} {body : Ss} (F : Fun K x qual st f fd) (S : FnScope c.N ps (defScope st)) (hsc : c.sc = defScope st) (hfn : c.fnc = fun _ => true) (hc : chkSs c body (defBody st) = true)
    (ev : NamesOk mg c gi) (tab : TabOk P w K mg base n c.fs tb) (A0 : Around) (hG : A0.guards = some []) (hr : Room (n + 1) A0) : FnAt A0 P w K mg base f fd ps (spS K fun kvs ds kvs' z => ∀ p, runS tb gi c.N.length ps.length body p kvs ds = .ok (kvs', z)) := by
  refine fn_at hr F S (fun vs H Q E h => ?_) fun cdv outer s H vs Q E hr' h => ?_
  · obtain ⟨G, p, ws, ps', kvs, ds, kvs', z, rfl, _, _, _, _, r, hg, _⟩ := h
    rw [List.length_cons, dpAll_len r]
    have hg := hg 0
    unfold runS at hg
    split at hg
    · rename_i hl; exact hl.1
    · cases hg
  · obtain ⟨G, p, ws, ps', kvs, ds, kvs', z, rfl, sx, gn, hp, hk, r, hg, q⟩ := h
    have hg := hg p
    unfold runS at hg
    split at hg
    · rename_i hl
      have g := good_of (s := s) (f := f) (qual := qual) (cdv := cdv) (outer := outer) (H := H) (E := E) rfl hsc hfn S.nd hG hr' ev tab
      have fin : ∀ (sl : List Sl) (v : V) (z' : PyData) (σ : L2.St) (G' H' : Hp), isP0 p sl = true → (rdK sl 0 >>= fun w => Oc.ok (w.2, z')) = Oc.ok (kvs', z) → En K G (del H p) G' H' σ sl → Ex G G' → Dd K G' v z' → Q v H' := by
        intro sl v z' σ G' H' h0 h1 E' g' r'
        obtain ⟨w, h2, h1⟩ := Oc.bind_eq_ok h1
        cases h1
        have h3 := rdK_ok h2
        unfold isP0 at h0
        rw [h3] at h0
        have h4 : w.1 = some p := eq_of_beq h0
        rw [h4] at h3
        obtain ⟨a, ps2, hσ, eo, n2, _, ha, hk2⟩ := E'.getK h3
        have ea : a = p := (eo p rfl).symm
        subst ea
        exact q v G' H' ps2 g' E'.s (fun b u hb hu => E'.gw.h b u (by rw [del_ne hb]; exact hu)) (fun b u hb hu t n => E'.gw.m b u (by rw [del_ne hb]; exact hu) t n) n2 ha hk2 r'
      cases hd : denSs tb gi body (.dk (some p) kvs :: (ds.map Sl.d ++ List.replicate (c.N.length - (ds.length + 1)) Sl.x)) with
      | un => rw [hd] at hg; cases hg
      | ex _ _ => rw [hd] at hg; cases hg
      | ok rr =>
        rw [hd] at hg hl
        have sv := sSs body g hc hd
        cases rr with
        | ret sl z' => exact sv (en_startS sx gn hp hk r) _ fun v σ G' H' E' g' r' => fin sl v z' σ G' H' hl.2 hg E' g' r'
        | nx sl => exact sv (en_startS sx gn hp hk r) _ fun σ G' H' E' g' => fin sl .non .none σ G' H' hl.2 hg E' g' .non
    · cases hg
theorem ek_disp3' {X : Cx} {xs : List Expr} {s0 s1 : List Sl} {d1 d2 d3 : PyData} {k1 k2 k3 : Str} {j1 j2 j3 : Nat} {p1 p2 p3 pos : Pos} {c : Ck} {tb : List Fk} {gi : List (Str × Int)} (g : Good X c tb gi) {es : Es} (hc : chkEs c es xs = true) (h : denEs tb gi es s0 = .ok (s1, [d1, d2, d3])) (n12 : k1 ≠ k2) (n13 : k1 ≠ k3) (n23 : k2 ≠ k3) :
    EvK X (.Dict [some (.Constant (.str k1) j1 p1), some (.Constant (.str k2) j2 p2), some (.Constant (.str k3) j3 p3)] xs pos) s0 s1 [(.inr k1, d1), (.inr k2, d2), (.inr k3, d3)] := by
  have hl := (sEs es g hc h).2.2
  obtain ⟨x1, x2, x3, rfl⟩ : ∃ x1 x2 x3, xs = [x1, x2, x3] := by
    match xs, hl with
    | [x1, x2, x3], _ => exact ⟨x1, x2, x3, rfl⟩
  cases es with
  | nil => cases hc
  | cons e1 es =>
    cases es with
    | nil => simp [chkEs] at hc
    | cons e2 es =>
      cases es with
      | nil => simp [chkEs] at hc
      | cons e3 es =>
        cases es with
        | cons e4 es => simp [chkEs] at hc
        | nil =>
          simp only [chkEs, Bool.and_eq_true] at hc
          simp only [denEs] at h
          obtain ⟨q1, h1, h⟩ := Oc.bind_eq_ok h
          obtain ⟨r1, h2, h⟩ := Oc.bind_eq_ok h
          obtain ⟨q2, h3, h2⟩ := Oc.bind_eq_ok h2
          obtain ⟨r2, h4, h2⟩ := Oc.bind_eq_ok h2
          obtain ⟨q3, h5, h4⟩ := Oc.bind_eq_ok h4
          obtain ⟨r3, h6, h4⟩ := Oc.bind_eq_ok h4
          cases h6; cases h4; cases h2; cases h
          refine ek_disp3 (sE e1 g hc.2.1 h1) (sE e2 g hc.2.2.2.1 h3) (sE e3 g hc.2.2.2.2.2.1 h5) fun v1 v2 v3 => ?_
          simp [mergeK, putK, n12, n13, n23, Ne.symm n12, Ne.symm n13, Ne.symm n23]
theorem at_K {x qual : Str} {st : Stmt} {f : Addr} {fd : FuncData} {ps : List Str} {c : Ck} {tb : List Fk} {gi : List (Str × Int)} {n : Nat} {k1 k2 k3 : Str} {es : Es} (F : Fun K x qual st f fd) (S : FnScope c.N ps (defScope st)) (hsc : c.sc = defScope st) (hfn : c.fnc = fun _ => true) (hc : chkK c k1 k2 k3 es (defBody st) = true)
    (ev : NamesOk mg c gi) (tab : TabOk P w K mg base n c.fs tb) (A0 : Around) (hG : A0.guards = some []) (hr : Room (n + 1) A0) : FnAt A0 P w K mg base f fd ps (spK K fun ds z => runK tb gi c.N.length ps.length k1 k2 k3 es ds = .ok z) := by
  refine fn_at hr F S (fun vs H Q E h => ?_) fun cdv outer s H vs Q E hr' h => ?_
  · obtain ⟨G, ds, z, _, r, hg, _⟩ := h
    rw [dpAll_len r]
    unfold runK at hg
    split at hg
    · rename_i hl; exact hl
    · cases hg
  · obtain ⟨G, ds, z, sx, r, hg, q⟩ := h
    unfold runK at hg
    split at hg
    · obtain ⟨u, h1, h2⟩ := Oc.bind_eq_ok hg
      obtain ⟨u1, u2⟩ := u
      simp only at h2
      split at h2
      · cases h2
        have g := good_of (s := s) (f := f) (qual := qual) (cdv := cdv) (outer := outer) (H := H) (E := E) rfl hsc hfn S.nd hG hr' ev tab
        unfold chkK at hc
        split at hc
        · rename_i eb
          simp only [Bool.and_eq_true, bne_iff_ne] at hc
          obtain ⟨e1, e2, e3, n1, n2, n3, he⟩ := hc
          have := eq_of_beq e1; subst this
          have := eq_of_beq e2; subst this
          have := eq_of_beq e3; subst this
          rw [eb]
          exact WB.of (pss_one (ps_ret pe_W)) ((ek_disp3' g he h1 n1 n2 n3) (en_start sx r) _ fun a ps G' H' E' g' ha r' => q a ps G' H' E'.gw ha r')
        · cases hc
      · cases h2
    · cases hg

/-! ### what the top has written -/
structure DefSt (K : PySem.W.Frag) (x : Str) (st : Stmt) : Prop where
  ex : ∃ (f : Addr) (oc : Value) (od : Option Addr) (kV dc pm : Value) (an : Option Addr) (cd ct : Value) (sl : Array (Option Value)),
    PySem.W.nsIn K mainGlobals x = some (some (.ref f)) ∧ K.lookup f = some ⟨oc, od, .func (PySem.W.fnOf x x (defArgs st) (defBody st) (defScope st) .none kV dc pm an cd ct), sl⟩ ∧ PySem.W.codeIn K cd x = true ∧ PySem.W.keepIn K (.ref f) = true
theorem DefSt.mk' {x : Str} {st : Stmt} {f : Addr} {oc : Value} {od : Option Addr} {kV dc pm : Value} {an : Option Addr} {cd ct : Value} {sl : Array (Option Value)}
    (a : PySem.W.nsIn K mainGlobals x = some (some (.ref f))) (l : K.lookup f = some ⟨oc, od, .func (PySem.W.fnOf x x (defArgs st) (defBody st) (defScope st) .none kV dc pm an cd ct), sl⟩) (c : PySem.W.codeIn K cd x = true) (k : PySem.W.keepIn K (.ref f) = true) : DefSt K x st :=
  ⟨f, oc, od, kV, dc, pm, an, cd, ct, sl, a, l, c, k⟩
structure IntSt (K : PySem.W.Frag) (x : Str) (n : Int) : Prop where
  ex : ∃ t : Tok, PySem.W.nsIn K mainGlobals x = some (some (.int n t))
theorem IntSt.mk' {x : Str} {n : Int} {t : Tok} (a : PySem.W.nsIn K mainGlobals x = some (some (.int n t))) : IntSt K x n := ⟨t, a⟩
/-- how a call's arguments are bound -/
def BindSt (x : Str) (st : Stmt) (ps : List Str) : Prop := ∀ (kV doc pm : Value) (an : Option Addr) (cdv ct : Value) (us : List Value), us.length = ps.length → bindArgs (PySem.W.fnOf x x (defArgs st) (defBody st) (defScope st) .none kV doc pm an cdv ct) ⟨us, []⟩ = pure (ps.zip us)
theorem fnR_of {x : Str} {st : Stmt} {ps : List Str} {n : Nat} {sp : Sp} (X : K.In h) (G : h.Ns mainGlobals mg) (D : DefSt K x st) (hb : BindSt x st ps)
    (ok : ∀ {f : Addr} {fd : FuncData}, Fun K x x st f fd → ∀ A0 : Around, A0.guards = some [] → Room n A0 → FnAt A0 P w K mg base f fd ps sp) : FnR P w K mg base x n sp := by
  obtain ⟨f, oc, od, kV, dc, pm, an, cd, ct, sl, a, l, c, kp⟩ := D.ex
  have F : Fun K x x st f _ := fun_mk (st := st) l c kp
  exact ⟨f, _, ps, PySem.W.mg_of X G a, kp, ok F, F.binds (ps := ps) hb⟩
structure DefOk (K : PySem.W.Frag) (mg : Str → Option Value) (x : Str) (st : Stmt) (ps : List Str) (c : Ck) (gi : List (Str × Int)) : Prop where
  at_ : DefSt K x st
  bind : BindSt x st ps
  scope : FnScope c.N ps (defScope st)
  sc : c.sc = defScope st
  fnc : c.fnc = fun _ => true
  names : NamesOk mg c gi
theorem fkD {x : Str} {st : Stmt} {ps : List Str} {n : Nat} {c : Ck} {tb : List Fk} {gi : List (Str × Int)} {body : Ss} (X : K.In h) (G : h.Ns mainGlobals mg) (D : DefOk K mg x st ps c gi) (hc : chkSs c body (defBody st) = true) (tab : TabOk P w K mg base n c.fs tb) :
    FkR P w K mg base x (n + 1) (.dd (runD tb gi c.N.length ps.length body)) :=
  fnR_of X G D.at_ D.bind fun F => at_D F D.scope D.sc D.fnc hc D.names tab
theorem fkS {x : Str} {st : Stmt} {ps : List Str} {n : Nat} {c : Ck} {tb : List Fk} {gi : List (Str × Int)} {body : Ss} (X : K.In h) (G : h.Ns mainGlobals mg) (D : DefOk K mg x st ps c gi) (hc : chkSs c body (defBody st) = true) (tab : TabOk P w K mg base n c.fs tb) :
    FkR P w K mg base x (n + 1) (.ss (runS tb gi c.N.length ps.length body)) :=
  fnR_of X G D.at_ D.bind fun F => at_S F D.scope D.sc D.fnc hc D.names tab
theorem fkK {x : Str} {st : Stmt} {ps : List Str} {n : Nat} {c : Ck} {tb : List Fk} {gi : List (Str × Int)} {k1 k2 k3 : Str} {es : Es} (X : K.In h) (G : h.Ns mainGlobals mg) (D : DefOk K mg x st ps c gi) (hc : chkK c k1 k2 k3 es (defBody st) = true) (tab : TabOk P w K mg base n c.fs tb) :
    FkR P w K mg base x (n + 1) (.kk (runK tb gi c.N.length ps.length k1 k2 k3 es)) :=
  fnR_of X G D.at_ D.bind fun F => at_K F D.scope D.sc D.fnc hc D.names tab
end
end Ewl
-- RD12
set_option Elab.async false
set_option linter.all false
set_option maxRecDepth 100000
set_option maxHeartbeats 4000000
/-! The end of a law, by its tree. -/
namespace Ewl
open PySem L2 PyProof.Rows
theorem lookup_mem {gi : List (Str × Int)} {x : Str} {i : Int} (h : gi.lookup x = some i) : (x, i) ∈ gi := by
  induction gi with
  | nil => cases h
  | cons p gi ih =>
    rw [List.lookup_cons] at h
    split at h
    · rename_i e
      cases h
      rw [eq_of_beq e]
      exact List.mem_cons_self
    · exact List.mem_cons_of_mem _ (ih h)
/-- names of the whole law -/
structure LawN (mg : Str → Option Value) (bs gs : List Str) (gi : List (Str × Int)) : Prop where
  blt : ∀ x ∈ bs, mg x = none
  mth : ∀ x ∈ gs, (x = "gcd" ∨ x = "lcm") ∧ mg x = some (.builtin (mthId x))
  gi : ∀ p ∈ gi, ∃ t, mg p.1 = some (.int p.2 t)
def subN (bs gs : List Str) (gi : List (Str × Int)) (c : Ck) (gi' : List (Str × Int)) : Bool :=
  (c.bs.all fun x => bs.contains x) && ((c.gs.all fun x => gs.contains x) && gi'.all fun p => gi.contains p)
theorem LawN.sub {mg : Str → Option Value} {bs gs : List Str} {gi : List (Str × Int)} (h : LawN mg bs gs gi) {c : Ck} {gi' : List (Str × Int)} (s : subN bs gs gi c gi' = true) : NamesOk mg c gi' := by
  unfold subN at s
  rw [Bool.and_eq_true, Bool.and_eq_true, List.all_eq_true, List.all_eq_true, List.all_eq_true] at s
  obtain ⟨s1, s2, s3⟩ := s
  exact ⟨fun x hx => h.blt x (List.contains_iff_mem.mp (s1 x hx)), fun x hx => h.mth x (List.contains_iff_mem.mp (s2 x hx)), fun x i hx => h.gi (x, i) (List.contains_iff_mem.mp (s3 _ (lookup_mem hx)))⟩
/-- all that is looked up in a def's text -/
def defB (bs gs : List Str) (gi : List (Str × Int)) (st : Stmt) (ps : List Str) (c : Ck) (gi' : List (Str × Int)) (body : Ss) : Bool :=
  scopeB c.N ps (defScope st) && (subN bs gs gi c gi' && chkSs c body (defBody st))
def defKB (bs gs : List Str) (gi : List (Str × Int)) (st : Stmt) (ps : List Str) (c : Ck) (gi' : List (Str × Int)) (k1 k2 k3 : Str) (es : Es) : Bool :=
  scopeB c.N ps (defScope st) && (subN bs gs gi c gi' && chkK c k1 k2 k3 es (defBody st))
section
variable {P : Program} {w : World} {K : PySem.W.Frag} {mg : Str → Option Value} {base h : Heap} {bs gs : List Str} {gi : List (Str × Int)}
theorem mkD {x : Str} {st : Stmt} {ps : List Str} {n : Nat} {c : Ck} {tb : List Fk} {gi' : List (Str × Int)} {body : Ss} (X : K.In h) (G : h.Ns mainGlobals mg) (L : LawN mg bs gs gi) (D : DefSt K x st) (hb : BindSt x st ps) (hB : defB bs gs gi st ps c gi' body = true) (hsc : c.sc = defScope st) (hfn : c.fnc = fun _ => true)
    (tab : TabOk P w K mg base n c.fs tb) : FkR P w K mg base x (n + 1) (.dd (runD tb gi' c.N.length ps.length body)) := by
  unfold defB at hB
  rw [Bool.and_eq_true, Bool.and_eq_true] at hB
  exact fkD X G ⟨D, hb, scopeB_of hB.1, hsc, hfn, L.sub hB.2.1⟩ hB.2.2 tab
theorem mkS {x : Str} {st : Stmt} {ps : List Str} {n : Nat} {c : Ck} {tb : List Fk} {gi' : List (Str × Int)} {body : Ss} (X : K.In h) (G : h.Ns mainGlobals mg) (L : LawN mg bs gs gi) (D : DefSt K x st) (hb : BindSt x st ps) (hB : defB bs gs gi st ps c gi' body = true) (hsc : c.sc = defScope st) (hfn : c.fnc = fun _ => true)
    (tab : TabOk P w K mg base n c.fs tb) : FkR P w K mg base x (n + 1) (.ss (runS tb gi' c.N.length ps.length body)) := by
  unfold defB at hB
  rw [Bool.and_eq_true, Bool.and_eq_true] at hB
  exact fkS X G ⟨D, hb, scopeB_of hB.1, hsc, hfn, L.sub hB.2.1⟩ hB.2.2 tab
theorem mkK {x : Str} {st : Stmt} {ps : List Str} {n : Nat} {c : Ck} {tb : List Fk} {gi' : List (Str × Int)} {k1 k2 k3 : Str} {es : Es} (X : K.In h) (G : h.Ns mainGlobals mg) (L : LawN mg bs gs gi) (D : DefSt K x st) (hb : BindSt x st ps) (hB : defKB bs gs gi st ps c gi' k1 k2 k3 es = true) (hsc : c.sc = defScope st) (hfn : c.fnc = fun _ => true)
    (tab : TabOk P w K mg base n c.fs tb) : FkR P w K mg base x (n + 1) (.kk (runK tb gi' c.N.length ps.length k1 k2 k3 es)) := by
  unfold defKB at hB
  rw [Bool.and_eq_true, Bool.and_eq_true] at hB
  exact fkK X G ⟨D, hb, scopeB_of hB.1, hsc, hfn, L.sub hB.2.1⟩ hB.2.2 tab
theorem law_mk {fa : Addr} {st : Stmt} {n : Nat} {c : Ck} {tb : List Fk} {gi' : List (Str × Int)} {body : Ss} (X : K.In h) (G : h.Ns mainGlobals mg) (L : LawN mg bs gs gi) (D : DefSt K "law" st) (hb : BindSt "law" st ["script"]) (hB : defB bs gs gi st ["script"] c gi' body = true) (hsc : c.sc = defScope st) (hfn : c.fnc = fun _ => true)
    (tab : ∀ base : Heap, TabOk P w K mg base n c.fs tb) (hfa : mg "law" = some (.ref fa)) (hr : Room (n + 1) callerA)
    (law : ∀ ns : List Int, ns.length ≤ 63 → runD tb gi' c.N.length 1 body [.list (ns.map .int)] = .ok (.bool true)) :
    ∃ fd : FuncData, (∀ (s : Shared) (v : Value), BindsTo s fd ⟨[v], []⟩ [("script", v)]) ∧ ∀ base : Heap, K.In base → base.Ns mainGlobals mg → FnAt callerA P w K mg base fa fd ["script"] (spD K gTrue) := by
  unfold defB at hB
  rw [Bool.and_eq_true, Bool.and_eq_true] at hB
  obtain ⟨f, oc, od, kV, dc, pm, an, cd, ct, sl, a, lk, cc, kp⟩ := D.ex
  have e := hfa.symm.trans (PySem.W.mg_of X G a)
  cases e
  refine ⟨PySem.W.fnOf "law" "law" (defArgs st) (defBody st) (defScope st) .none kV dc pm an cd ct, fun s v => .of_eq (hb kV dc pm an cd ct [v] rfl), fun base _ _ => ?_⟩
  have A := at_D (P := P) (w := w) (base := base) (fun_mk (st := st) lk cc kp) (scopeB_of hB.1) hsc hfn hB.2.2 (L.sub hB.2.1) (tab base) callerA rfl hr
  refine ⟨fun vs H Q E h => ?_, fun outer s H args us vs Q E e0 b r h => A.at_ outer s H args us vs Q E e0 b r ?_⟩
  · obtain ⟨G, ds, z, _, r, ⟨ns, _, rfl, _⟩, _⟩ := h
    rw [dpAll_len r]; rfl
  · obtain ⟨G, ds, z, sx, r, ⟨ns, hl, e1, e2⟩, q⟩ := h
    subst e1 e2
    exact ⟨G, _, _, sx, r, law ns hl, q⟩
end
end Ewl
-- B1
set_option Elab.async false
set_option linter.all false
set_option maxRecDepth 100000
set_option maxHeartbeats 4000000
namespace Ewl
open PySem L2
noncomputable section
def i__law_draw : Es := (.cons (.ite (.val (.cmp .ge (.var 0) (.bin .pow (.int 10) (.int 18)))) (.var 0) (.int 0)) (.cons (.var 0) (.cons (.bin .mul (.int 1000) (.var 1)) .nil)))
def F__law_draw : List PyData → Oc (List (Key × PyData)) := runK [] [] 2 2 "left" "cell" "turns" i__law_draw
def i__law_mixed : Ss :=
  (.cons (.asg 2 (.bin .add (.bin .add (.bin .mod (.var 0) (.ix (.fz (.lst (.cons (.int 1000000007) (.cons (.int 998244353) (.cons (.int 2147483629) (.cons (.int 1000000009) .nil)))))) (.bin .mod (.var 1) (.int 4)))) (.bin .mul (.int 7919) (.var 1))) (.int 13)))
  (.cons (.ret (.bin .mod (.bin .mul (.bin .mod (.bin .mul (.var 2) (.var 2)) (.int 2147483647)) (.int 48271)) (.int 2147483647)))
  .nil))
def F__law_mixed : List PyData → Oc PyData := runD [] [] 3 2 i__law_mixed
def i__law_digit : Ss :=
  (.cons (.ife (.val (.cmp .eq (.ixv 0 (.str "left")) (.int 0)))
    ((.cons (.for_ (.nm 2) (.rng (.int 4))
       ((.cons (.putK 0 "turns" (.bin .add (.ixv 0 (.str "turns")) (.int 1)))
        (.cons (.putK 0 "left" (.bin .add (.bin .mul (.ixv 0 (.str "left")) (.int 2147483647)) (.call 0 (.cons (.ixv 0 (.str "cell")) (.cons (.ixv 0 (.str "turns")) .nil)))))
        .nil))))
     .nil))
    (.nil))
  (.cons (.asg 3 (.bin .mod (.ixv 0 (.str "left")) (.var 1)))
  (.cons (.putK 0 "left" (.bin .fdiv (.ixv 0 (.str "left")) (.var 1)))
  (.cons (.ret (.var 3))
  .nil))))
def F__law_digit : Addr → List (Key × PyData) → List PyData → Oc (List (Key × PyData) × PyData) := runS [.dd F__law_mixed] [] 4 2 i__law_digit
def i__law_counts : Ss :=
  (.cons (.par [2, 3] (.e (.ix (.fz (.lst (.cons (.int 1) (.cons (.int 2) (.cons (.int 2) (.cons (.int 3) (.cons (.int 4) (.cons (.int 6) .nil)))))))) (.callS 0 0 (.cons (.int 6) .nil))) (.l (.lst .nil) .nil)))
  (.cons (.for_ (.nm 4) (.rng (.bin .add (.int 1) (.callS 0 0 (.cons (.int 6) .nil))))
    ((.cons (.asg 5 (.bi .min (.cons (.int 12) (.cons (.bin .mul (.var 2) (.bin .add (.int 1) (.callS 0 0 (.cons (.int 4) .nil)))) (.cons (.bin .sub (.var 1) (.bi .sum (.cons (.var 3) .nil))) .nil)))))
     (.cons (.asgL 3 (.cat (.var 3) (.fz (.rep (.lst (.cons (.var 5) .nil)) (.bi .int (.cons (.cmp .gt (.var 5) (.int 0)) .nil))))))
     .nil))))
  (.cons (.ret (.bi .tuple (.cons (.var 3) .nil)))
  .nil)))
def F__law_counts : Addr → List (Key × PyData) → List PyData → Oc (List (Key × PyData) × PyData) := runS [.ss F__law_digit] [] 6 2 i__law_counts
def i__law_touches : Ss :=
  (.cons (.par [3, 4] (.l (.lst .nil) (.l (.lst .nil) .nil)))
  (.cons (.for_ (.tup (.cons (.nm 5) (.cons (.nm 6) .nil))) (.enum (.var 1))
    ((.cons (.asgL 3 (.cat (.var 3) (.fz (.lc [10] (.nm 10) (.rng (.var 6)) (.tup (.cons (.var 5) (.cons (.var 10) .nil)))))))
     .nil)))
  (.cons (.for_ (.nm 7) (.rng (.callS 0 0 (.cons (.bin .add (.var 2) (.int 1)) .nil)))
    ((.cons (.ife (.val (.cmp .gt (.lenv 3) (.int 1)))
       ((.cons (.popAt 8 3 (.callS 0 0 (.cons (.lenv 3) .nil)))
        (.cons (.popAt 9 3 (.callS 0 0 (.cons (.lenv 3) .nil)))
        (.cons (.app 4 (.tup (.cons (.bi .min (.cons (.var 8) (.cons (.var 9) .nil))) (.cons (.bi .max (.cons (.var 8) (.cons (.var 9) .nil))) .nil))))
        .nil))))
       (.nil))
     .nil)))
  (.cons (.ret (.bi .tuple (.cons (.fz (.bl .sorted (.cons (.var 4) .nil))) .nil)))
  .nil))))
def F__law_touches : Addr → List (Key × PyData) → List PyData → Oc (List (Key × PyData) × PyData) := runS [.ss F__law_digit] [] 11 3 i__law_touches
def i__law_machine : Ss :=
  (.cons (.asg 2 (.callS 0 0 (.cons (.var 1) .nil)))
  (.cons (.ret (.tup (.cons (.var 2) (.cons (.callS 1 0 (.cons (.var 2) (.cons (.int 8) .nil))) .nil))))
  .nil))
def F__law_machine : Addr → List (Key × PyData) → List PyData → Oc (List (Key × PyData) × PyData) := runS [.ss F__law_counts, .ss F__law_touches] [] 3 2 i__law_machine
def i__law_touching : Ss :=
  (.cons (.asg 2 (.callS 0 0 (.cons (.var 1) .nil)))
  (.cons (.ife (.val (.cmp .ne (.ixv 2 (.int 1)) (.tup .nil)))
    ((.cons (.ret (.var 2))
     .nil))
    (.nil))
  (.cons (.ret (.tup (.cons (.tup (.cons (.int 2) (.cons (.int 3) .nil))) (.cons (.tup (.cons (.tup (.cons (.tup (.cons (.int 0) (.cons (.callS 1 0 (.cons (.int 2) .nil)) .nil))) (.cons (.tup (.cons (.int 1) (.cons (.callS 1 0 (.cons (.int 3) .nil)) .nil))) .nil))) .nil)) .nil))))
  .nil)))
def F__law_touching : Addr → List (Key × PyData) → List PyData → Oc (List (Key × PyData) × PyData) := runS [.ss F__law_machine, .ss F__law_digit] [] 3 2 i__law_touching
def i__law_lowest : Ss :=
  (.cons (.par [2, 3] (.e (.bi .abs (.cons (.var 0) .nil)) (.e (.var 1) .nil)))
  (.cons (.whl (.val (.cmp .ne (.var 3) (.int 0)))
    ((.cons (.par [2, 3] (.e (.var 3) (.e (.bin .mod (.var 2) (.var 3)) .nil)))
     .nil)))
  (.cons (.ret (.tup (.cons (.bin .fdiv (.var 0) (.var 2)) (.cons (.bin .fdiv (.var 1) (.var 2)) .nil))))
  .nil)))
def F__law_lowest : List PyData → Oc PyData := runD [] [] 4 2 i__law_lowest
def i__law_load : Ss :=
  (.cons (.asgL 3 (.lst .nil))
  (.cons (.for_ (.nm 4) (.seq (.var 1))
    ((.cons (.asgL 5 (.lc [6] (.nm 6) (.rng (.var 4)) (.tup (.cons (.bin .sub (.callS 0 0 (.cons (.bin .add (.bin .mul (.int 2) (.var 2)) (.int 1)) .nil)) (.var 2)) (.cons (.bin .add (.int 1) (.callS 0 0 (.cons (.int 3) .nil))) .nil)))))
     (.cons (.app 3 (.bi .tuple (.cons (.fz (.lc [7, 8] (.tup (.cons (.nm 7) (.cons (.nm 8) .nil))) (.seq (.var 5)) (.call 1 (.cons (.var 7) (.cons (.var 8) .nil))))) .nil)))
     .nil))))
  (.cons (.ret (.bi .tuple (.cons (.var 3) .nil)))
  .nil)))
def F__law_load : Addr → List (Key × PyData) → List PyData → Oc (List (Key × PyData) × PyData) := runS [.ss F__law_digit, .dd F__law_lowest] [] 9 3 i__law_load
def i__law_window : Ss :=
  (.cons (.asgL 2 (.lcIf [3] (.nm 3) (.rng (.bi .len (.cons (.ixv 1 (.int 1)) .nil))) (.val (.cmp .eq (.callS 0 0 (.cons (.int 2) .nil)) (.int 1))) (.var 3)))
  (.cons (.ret (.bi .tuple (.cons (.ite (.val (.cmp .ne (.var 2) (.fz (.lst .nil)))) (.var 2) (.fz (.lst (.cons (.callS 0 0 (.cons (.bi .len (.cons (.ixv 1 (.int 1)) .nil)) .nil)) .nil)))) .nil)))
  .nil))
def F__law_window : Addr → List (Key × PyData) → List PyData → Oc (List (Key × PyData) × PyData) := runS [.ss F__law_digit] [] 4 2 i__law_window
def i__law_flat : Ss :=
  (.cons (.asgL 1 (.lst .nil))
  (.cons (.for_ (.nm 2) (.seq (.var 0))
    ((.cons (.ext 1 (.var 2))
     .nil)))
  (.cons (.ret (.var 1))
  .nil)))
def F__law_flat : List PyData → Oc PyData := runD [] [] 3 1 i__law_flat
def i__law_shaped : Ss :=
  (.cons (.par [2, 3] (.l (.lst .nil) (.e (.int 0) .nil)))
  (.cons (.for_ (.nm 4) (.seq (.var 0))
    ((.cons (.app 2 (.bi .tuple (.cons (.fz (.slc (.var 1) (.so (.var 3)) (.so (.bin .add (.var 3) (.var 4))))) .nil)))
     (.cons (.asg 3 (.bin .add (.var 3) (.var 4)))
     .nil))))
  (.cons (.ret (.bi .tuple (.cons (.var 2) .nil)))
  .nil)))
def F__law_shaped : List PyData → Oc PyData := runD [] [] 5 2 i__law_shaped
def i__law_plus : Ss :=
  (.cons (.ret (.call 0 (.cons (.bin .add (.bin .mul (.ixv 0 (.int 0)) (.ixv 1 (.int 1))) (.bin .mul (.ixv 1 (.int 0)) (.ixv 0 (.int 1)))) (.cons (.bin .mul (.ixv 0 (.int 1)) (.ixv 1 (.int 1))) .nil))))
  .nil)
def F__law_plus : List PyData → Oc PyData := runD [.dd F__law_lowest] [] 2 2 i__law_plus
def i__law_read : Ss :=
  (.cons (.asgL 2 (.lst .nil))
  (.cons (.for_ (.tup (.cons (.tup (.cons (.nm 3) (.cons (.nm 4) .nil))) (.cons (.tup (.cons (.nm 5) (.cons (.nm 6) .nil))) .nil))) (.seq (.ixv 0 (.int 1)))
    ((.cons (.asg 7 (.call 0 (.cons (.ix (.ixv 1 (.var 3)) (.var 4)) (.cons (.ix (.ixv 1 (.var 5)) (.var 6)) .nil))))
     (.cons (.app 2 (.call 1 (.cons (.ixv 7 (.int 0)) (.cons (.bin .mul (.int 2) (.ixv 7 (.int 1))) .nil))))
     .nil))))
  (.cons (.ret (.bi .tuple (.cons (.var 2) .nil)))
  .nil)))
def F__law_read : List PyData → Oc PyData := runD [.dd F__law_plus, .dd F__law_lowest] [] 8 2 i__law_read
def i__law_beat : Ss :=
  (.cons (.asgLL 2 [7] (.nm 7) (.seq (.var 1)) (.bl .list (.cons (.var 7) .nil)))
  (.cons (.for_ (.tup (.cons (.nm 3) (.cons (.nm 4) .nil))) (.zip (.ixv 0 (.int 1)) (.call 0 (.cons (.var 0) (.cons (.var 1) .nil))))
    ((.cons (.for_ (.tup (.cons (.nm 5) (.cons (.nm 6) .nil))) (.seq (.var 3))
       ((.cons (.setLL 2 (.var 5) (.var 6) (.var 4))
        .nil)))
     .nil)))
  (.cons (.ret (.bi .tuple (.cons (.fz (.lc [7] (.nm 7) (.seq (.var 2)) (.bi .tuple (.cons (.fz (.lc [6] (.nm 6) (.rng (.lenv 7)) (.ixv 7 (.bin .mod (.bin .add (.var 6) (.int 1)) (.lenv 7))))) .nil)))) .nil)))
  .nil)))
def F__law_beat : List PyData → Oc PyData := runD [.dd F__law_read] [] 8 2 i__law_beat
def i__law_rows : Ss :=
  (.cons (.asg 3 (.bi .sum (.cons (.ixv 0 (.int 0)) .nil)))
  (.cons (.asgL 4 (.lc [8] (.nm 8) (.rng (.var 3)) (.call 0 (.cons (.ixv 0 (.int 0)) (.cons (.fz (.lc [10] (.nm 10) (.rng (.var 3)) (.tup (.cons (.bi .int (.cons (.cmp .eq (.var 10) (.var 8)) .nil)) (.cons (.int 1) .nil))))) .nil)))))
  (.cons (.asgL 5 (.lst .nil))
  (.cons (.for_ (.nm 6) (.rng (.var 2))
    ((.cons (.asgL 7 (.lc [9] (.nm 9) (.seq (.var 4)) (.call 1 (.cons (.var 0) (.cons (.var 9) .nil)))))
     (.cons (.app 5 (.fz (.lc [11] (.nm 11) (.seq (.var 1)) (.fz (.lc [12] (.nm 12) (.seq (.var 7)) (.ixv 12 (.var 11)))))))
     (.cons (.asgL 4 (.lc [9] (.nm 9) (.seq (.var 4)) (.call 2 (.cons (.var 0) (.cons (.var 9) .nil)))))
     .nil)))))
  (.cons (.ret (.var 5))
  .nil)))))
def F__law_rows : List PyData → Oc PyData := runD [.dd F__law_shaped, .dd F__law_read, .dd F__law_beat] [] 13 3 i__law_rows
def i__law_times : Ss :=
  (.cons (.ret (.call 0 (.cons (.bin .mul (.ixv 0 (.int 0)) (.ixv 1 (.int 0))) (.cons (.bin .mul (.ixv 0 (.int 1)) (.ixv 1 (.int 1))) .nil))))
  .nil)
def F__law_times : List PyData → Oc PyData := runD [.dd F__law_lowest] [] 2 2 i__law_times
def i__law_pairing : Ss :=
  (.cons (.asg 2 (.tup (.cons (.int 0) (.cons (.int 1) .nil))))
  (.cons (.for_ (.tup (.cons (.nm 3) (.cons (.nm 4) .nil))) (.zip (.var 0) (.var 1))
    ((.cons (.asg 2 (.call 0 (.cons (.var 2) (.cons (.call 1 (.cons (.var 3) (.cons (.var 4) .nil))) .nil))))
     .nil)))
  (.cons (.ret (.var 2))
  .nil)))
def F__law_pairing : List PyData → Oc PyData := runD [.dd F__law_plus, .dd F__law_times] [] 5 2 i__law_pairing
def i_is_tuple_of : Ss :=
  (.cons (.ret (.ands (.cons (.tyIs false (.var 0) "tuple") (.cons (.cmp .eq (.lenv 0) (.var 1)) .nil))))
  .nil)
def F_is_tuple_of : List PyData → Oc PyData := runD [] [] 2 2 i_is_tuple_of
def i_is_whole : Ss :=
  (.cons (.ret (.tyIs false (.var 0) "int"))
  .nil)
def F_is_whole : List PyData → Oc PyData := runD [] [] 1 1 i_is_whole
def i_are_counts : Ss :=
  (.cons (.ife (.ors (.cons (.val (.tyIs true (.var 0) "tuple")) (.one (.nt (.val (.chain .le .le (.int 1) (.lenv 0) (.glb "MOST_WHEELS")))))))
    ((.cons (.ret (.bl false))
     .nil))
    (.nil))
  (.cons (.for_ (.nm 1) (.seq (.var 0))
    ((.cons (.ife (.ors (.cons (.nt (.val (.call 0 (.cons (.var 1) .nil)))) (.one (.val (.cmp .lt (.var 1) (.int 1))))))
       ((.cons (.ret (.bl false))
        .nil))
       (.nil))
     .nil)))
  (.cons (.ret (.cmp .le (.bi .sum (.cons (.var 0) .nil)) (.glb "MOST_CELLS")))
  .nil)))
def F_are_counts : List PyData → Oc PyData := runD [.dd F_is_whole] [("MOST_CELLS", 30), ("MOST_WHEELS", 16)] 2 1 i_are_counts
def i_is_spot_of : Ss :=
  (.cons (.ife (.nt (.val (.call 0 (.cons (.var 1) (.cons (.int 2) .nil)))))
    ((.cons (.ret (.bl false))
     .nil))
    (.nil))
  (.cons (.asgT (.tup (.cons (.nm 2) (.cons (.nm 3) .nil))) (.var 1))
  (.cons (.ife (.ors (.cons (.nt (.val (.call 1 (.cons (.var 2) .nil)))) (.one (.nt (.val (.call 1 (.cons (.var 3) .nil)))))))
    ((.cons (.ret (.bl false))
     .nil))
    (.nil))
  (.cons (.ret (.ands (.cons (.chain .le .lt (.int 0) (.var 2) (.lenv 0)) (.cons (.chain .le .lt (.int 0) (.var 3) (.ixv 0 (.var 2))) .nil))))
  .nil))))
def F_is_spot_of : List PyData → Oc PyData := runD [.dd F_is_tuple_of, .dd F_is_whole] [] 4 2 i_is_spot_of
def i_is_pair_of : Ss :=
  (.cons (.ret (.ands (.cons (.call 1 (.cons (.var 1) (.cons (.int 2) .nil))) (.cons (.call 0 (.cons (.var 0) (.cons (.ixv 1 (.int 0)) .nil))) (.cons (.call 0 (.cons (.var 0) (.cons (.ixv 1 (.int 1)) .nil))) .nil)))))
  .nil)
def F_is_pair_of : List PyData → Oc PyData := runD [.dd F_is_spot_of, .dd F_is_tuple_of] [] 2 2 i_is_pair_of
def i_need_touches : Ss :=
  (.cons (.newT 2)
  (.cons (.for_ (.tup (.cons (.nm 3) (.cons (.nm 4) .nil))) (.enum (.var 1))
    ((.cons (.ife (.ors (.cons (.nt (.val (.call 0 (.cons (.var 0) (.cons (.var 4) .nil))))) (.one (.val (.cmp .ge (.ixv 4 (.int 0)) (.ixv 4 (.int 1)))))))
       ((.cons .bad
        .nil))
       (.nil))
     (.cons (.ife (.ands (.cons (.val (.cmp .gt (.var 3) (.int 0))) (.one (.val (.cmp .le (.var 4) (.ixv 1 (.bin .sub (.var 3) (.int 1))))))))
       ((.cons .bad
        .nil))
       (.nil))
     (.cons (.ife (.ors (.cons (.val (.innv false (.ixv 4 (.int 0)) 2)) (.one (.val (.innv false (.ixv 4 (.int 1)) 2)))))
       ((.cons .bad
        .nil))
       (.nil))
     (.cons (.putT 2 (.ixv 4 (.int 0)) (.bl true))
     (.cons (.putT 2 (.ixv 4 (.int 1)) (.bl true))
     .nil)))))))
  .nil))
def F_need_touches : List PyData → Oc PyData := runD [.dd F_is_pair_of] [] 5 2 i_need_touches
def i_need_machine : Ss :=
  (.cons (.ife (.nt (.val (.call 0 (.cons (.var 0) (.cons (.int 2) .nil)))))
    ((.cons .bad
     .nil))
    (.nil))
  (.cons (.asgT (.tup (.cons (.nm 1) (.cons (.nm 2) .nil))) (.var 0))
  (.cons (.ife (.nt (.val (.call 1 (.cons (.var 1) .nil))))
    ((.cons .bad
     .nil))
    (.nil))
  (.cons (.ife (.ors (.cons (.val (.tyIs true (.var 2) "tuple")) (.one (.val (.cmp .gt (.lenv 2) (.glb "MOST_TOUCHES"))))))
    ((.cons .bad
     .nil))
    (.nil))
  (.cons (.ex (.call 2 (.cons (.var 1) (.cons (.var 2) .nil))))
  .nil)))))
def F_need_machine : List PyData → Oc PyData := runD [.dd F_is_tuple_of, .dd F_are_counts, .dd F_need_touches] [("MOST_TOUCHES", 8)] 3 1 i_need_machine
def i_are_numbers_below : Ss :=
  (.cons (.ife (.val (.tyIs true (.var 1) "tuple"))
    ((.cons (.ret (.bl false))
     .nil))
    (.nil))
  (.cons (.for_ (.tup (.cons (.nm 2) (.cons (.nm 3) .nil))) (.enum (.var 1))
    ((.cons (.ife (.ors (.cons (.nt (.val (.call 0 (.cons (.var 3) .nil)))) (.one (.nt (.val (.chain .le .lt (.int 0) (.var 3) (.var 0)))))))
       ((.cons (.ret (.bl false))
        .nil))
       (.nil))
     (.cons (.ife (.ands (.cons (.val (.cmp .gt (.var 2) (.int 0))) (.one (.val (.cmp .le (.var 3) (.ixv 1 (.bin .sub (.var 2) (.int 1))))))))
       ((.cons (.ret (.bl false))
        .nil))
       (.nil))
     .nil))))
  (.cons (.ret (.bl true))
  .nil)))
def F_are_numbers_below : List PyData → Oc PyData := runD [.dd F_is_whole] [] 4 2 i_are_numbers_below
def i_need_window : Ss :=
  (.cons (.ex (.call 0 (.cons (.var 0) .nil)))
  (.cons (.ife (.ors (.cons (.nt (.val (.call 1 (.cons (.bi .len (.cons (.ixv 0 (.int 1)) .nil)) (.cons (.var 1) .nil))))) (.one (.val (.cmp .eq (.lenv 1) (.int 0))))))
    ((.cons .bad
     .nil))
    (.nil))
  .nil))
def F_need_window : List PyData → Oc PyData := runD [.dd F_need_machine, .dd F_are_numbers_below] [] 2 2 i_need_window
def i_is_fraction : Ss :=
  (.cons (.ife (.nt (.val (.call 0 (.cons (.var 0) (.cons (.int 2) .nil)))))
    ((.cons (.ret (.bl false))
     .nil))
    (.nil))
  (.cons (.asgT (.tup (.cons (.nm 1) (.cons (.nm 2) .nil))) (.var 0))
  (.cons (.ret (.ands (.cons (.call 1 (.cons (.var 1) .nil)) (.cons (.call 1 (.cons (.var 2) .nil)) (.cons (.cmp .gt (.var 2) (.int 0)) (.cons (.cmp .eq (.bi .gcd (.cons (.var 1) (.cons (.var 2) .nil))) (.int 1)) .nil))))))
  .nil)))
def F_is_fraction : List PyData → Oc PyData := runD [.dd F_is_tuple_of, .dd F_is_whole] [] 3 1 i_is_fraction
def i_need_load_on : Ss :=
  (.cons (.ife (.nt (.val (.call 0 (.cons (.var 1) (.cons (.lenv 0) .nil)))))
    ((.cons .bad
     .nil))
    (.nil))
  (.cons (.for_ (.tup (.cons (.nm 2) (.cons (.nm 3) .nil))) (.enum (.var 0))
    ((.cons (.ife (.nt (.val (.call 0 (.cons (.ixv 1 (.var 2)) (.cons (.var 3) .nil)))))
       ((.cons .bad
        .nil))
       (.nil))
     .nil)))
  (.cons (.for_ (.tup (.cons (.nm 2) (.cons (.nm 4) .nil))) (.enum (.var 1))
    ((.cons (.for_ (.tup (.cons (.nm 5) (.cons (.nm 6) .nil))) (.enum (.var 4))
       ((.cons (.ife (.nt (.val (.call 1 (.cons (.var 6) .nil))))
          ((.cons .bad
           .nil))
          (.nil))
        .nil)))
     .nil)))
  .nil)))
def F_need_load_on : List PyData → Oc PyData := runD [.dd F_is_tuple_of, .dd F_is_fraction] [] 7 2 i_need_load_on
def i_need_load : Ss :=
  (.cons (.ex (.call 0 (.cons (.var 0) .nil)))
  (.cons (.ex (.call 1 (.cons (.ixv 0 (.int 0)) (.cons (.var 1) .nil))))
  .nil))
def F_need_load : List PyData → Oc PyData := runD [.dd F_need_machine, .dd F_need_load_on] [] 2 2 i_need_load
def i_need_look_beats : Ss :=
  (.cons (.ife (.ors (.cons (.nt (.val (.call 0 (.cons (.var 0) .nil)))) (.one (.nt (.val (.chain .le .le (.int 1) (.var 0) (.glb "MOST_CELLS")))))))
    ((.cons .bad
     .nil))
    (.nil))
  .nil)
def F_need_look_beats : List PyData → Oc PyData := runD [.dd F_is_whole] [("MOST_CELLS", 30)] 1 1 i_need_look_beats
def i_need_beats : Ss :=
  (.cons (.ife (.ors (.cons (.nt (.val (.call 0 (.cons (.var 0) .nil)))) (.one (.nt (.val (.chain .le .le (.int 0) (.var 0) (.glb "MOST_BEATS")))))))
    ((.cons .bad
     .nil))
    (.nil))
  .nil)
def F_need_beats : List PyData → Oc PyData := runD [.dd F_is_whole] [("MOST_BEATS", 300)] 1 1 i_need_beats
def i_lowest : Ss :=
  (.cons (.asg 2 (.bi .gcd (.cons (.var 0) (.cons (.var 1) .nil))))
  (.cons (.ife (.val (.cmp .lt (.var 1) (.int 0)))
    ((.cons (.asg 2 (.neg (.var 2)))
     .nil))
    (.nil))
  (.cons (.ret (.tup (.cons (.bin .fdiv (.var 0) (.var 2)) (.cons (.bin .fdiv (.var 1) (.var 2)) .nil))))
  .nil)))
def F_lowest : List PyData → Oc PyData := runD [] [] 3 2 i_lowest
def i_half : Ss :=
  (.cons (.ret (.call 0 (.cons (.ixv 0 (.int 0)) (.cons (.bin .mul (.int 2) (.ixv 0 (.int 1))) .nil))))
  .nil)
def F_half : List PyData → Oc PyData := runD [.dd F_lowest] [] 1 1 i_half
def i_plus : Ss :=
  (.cons (.ret (.call 0 (.cons (.bin .add (.bin .mul (.ixv 0 (.int 0)) (.ixv 1 (.int 1))) (.bin .mul (.ixv 1 (.int 0)) (.ixv 0 (.int 1)))) (.cons (.bin .mul (.ixv 0 (.int 1)) (.ixv 1 (.int 1))) .nil))))
  .nil)
def F_plus : List PyData → Oc PyData := runD [.dd F_lowest] [] 2 2 i_plus
def i__read : Ss :=
  (.cons (.ret (.bi .tuple (.cons (.fz (.lc [2, 3, 4, 5] (.tup (.cons (.tup (.cons (.nm 2) (.cons (.nm 3) .nil))) (.cons (.tup (.cons (.nm 4) (.cons (.nm 5) .nil))) .nil))) (.seq (.ixv 0 (.int 1))) (.call 0 (.cons (.call 1 (.cons (.ix (.ixv 1 (.var 2)) (.var 3)) (.cons (.ix (.ixv 1 (.var 4)) (.var 5)) .nil))) .nil)))) .nil)))
  .nil)
def F__read : List PyData → Oc PyData := runD [.dd F_half, .dd F_plus] [] 6 2 i__read
def i__load_of : Ss :=
  (.cons (.ret (.bi .tuple (.cons (.fz (.lc [1] (.nm 1) (.seq (.var 0)) (.bi .tuple (.cons (.var 1) .nil)))) .nil)))
  .nil)
def F__load_of : List PyData → Oc PyData := runD [] [] 2 1 i__load_of
def i_next_load : Ss :=
  (.cons (.asgLL 2 [7] (.nm 7) (.seq (.var 1)) (.bl .list (.cons (.var 7) .nil)))
  (.cons (.for_ (.tup (.cons (.nm 3) (.cons (.nm 4) .nil))) (.zip (.ixv 0 (.int 1)) (.call 0 (.cons (.var 0) (.cons (.var 1) .nil))))
    ((.cons (.for_ (.tup (.cons (.nm 5) (.cons (.nm 6) .nil))) (.seq (.var 3))
       ((.cons (.setLL 2 (.var 5) (.var 6) (.var 4))
        .nil)))
     .nil)))
  (.cons (.ret (.call 1 (.cons (.fz (.lc [7] (.nm 7) (.seq (.var 2)) (.fz (.cat (.fz (.slc (.var 7) (.so (.int 1)) .no)) (.fz (.slc (.var 7) .no (.so (.int 1)))))))) .nil)))
  .nil)))
def F_next_load : List PyData → Oc PyData := runD [.dd F__read, .dd F__load_of] [] 8 2 i_next_load
def i_readings : Ss :=
  (.cons (.ex (.call 0 (.cons (.var 0) (.cons (.var 1) .nil))))
  (.cons (.ex (.call 1 (.cons (.var 2) .nil)))
  (.cons (.asgL 3 (.lst .nil))
  (.cons (.asg 4 (.var 1))
  (.cons (.for_ (.nm 5) (.rng (.var 2))
    ((.cons (.app 3 (.call 2 (.cons (.var 0) (.cons (.var 4) .nil))))
     (.cons (.asg 4 (.call 3 (.cons (.var 0) (.cons (.var 4) .nil))))
     .nil))))
  (.cons (.ret (.var 3))
  .nil))))))
def F_readings : List PyData → Oc PyData := runD [.dd F_need_load, .dd F_need_beats, .dd F__read, .dd F_next_load] [] 6 3 i_readings
def i_looks : Ss :=
  (.cons (.ex (.call 0 (.cons (.var 0) (.cons (.var 1) .nil))))
  (.cons (.ex (.call 1 (.cons (.var 0) (.cons (.var 2) .nil))))
  (.cons (.ex (.call 2 (.cons (.var 3) .nil)))
  (.cons (.asg 4 (.call 3 (.cons (.var 0) (.cons (.var 2) (.cons (.var 3) .nil)))))
  (.cons (.ret (.bi .tuple (.cons (.fz (.lc [5] (.nm 5) (.seq (.var 4)) (.bi .tuple (.cons (.fz (.lc [6] (.nm 6) (.seq (.var 1)) (.ixv 5 (.var 6)))) .nil)))) .nil)))
  .nil)))))
def F_looks : List PyData → Oc PyData := runD [.dd F_need_window, .dd F_need_load, .dd F_need_look_beats, .dd F_readings] [] 7 4 i_looks
def i_need_touch_in : Ss :=
  (.cons (.ife (.ors (.cons (.nt (.val (.call 0 (.cons (.var 1) .nil)))) (.one (.nt (.val (.chain .le .lt (.int 0) (.var 1) (.lenv 0)))))))
    ((.cons .bad
     .nil))
    (.nil))
  .nil)
def F_need_touch_in : List PyData → Oc PyData := runD [.dd F_is_whole] [] 2 2 i_need_touch_in
def i_need_touch : Ss :=
  (.cons (.ex (.call 0 (.cons (.var 0) .nil)))
  (.cons (.ex (.call 1 (.cons (.ixv 0 (.int 1)) (.cons (.var 1) .nil))))
  .nil))
def F_need_touch : List PyData → Oc PyData := runD [.dd F_need_machine, .dd F_need_touch_in] [] 2 2 i_need_touch
def i_machine_of : Ss :=
  (.cons (.ife (.nt (.val (.call 0 (.cons (.var 0) .nil))))
    ((.cons .bad
     .nil))
    (.nil))
  (.cons (.ife (.ors (.cons (.val (.tyIn true (.var 1) "tuple" "list")) (.one (.val (.cmp .gt (.lenv 1) (.glb "MOST_TOUCHES"))))))
    ((.cons .bad
     .nil))
    (.nil))
  (.cons (.for_ (.nm 2) (.seq (.var 1))
    ((.cons (.ife (.nt (.val (.call 1 (.cons (.var 0) (.cons (.var 2) .nil)))))
       ((.cons .bad
        .nil))
       (.nil))
     .nil)))
  (.cons (.asg 3 (.tup (.cons (.var 0) (.cons (.bi .tuple (.cons (.fz (.bl .sorted (.cons (.fz (.lc [2] (.nm 2) (.seq (.var 1)) (.bi .tuple (.cons (.fz (.bl .sorted (.cons (.var 2) .nil))) .nil)))) .nil))) .nil)) .nil))))
  (.cons (.ex (.call 2 (.cons (.var 3) .nil)))
  (.cons (.ret (.var 3))
  .nil))))))
def F_machine_of : List PyData → Oc PyData := runD [.dd F_are_counts, .dd F_is_pair_of, .dd F_need_machine] [("MOST_TOUCHES", 8)] 4 2 i_machine_of
def i__mirrored : Ss :=
  (.cons (.ret (.bi .tuple (.cons (.fz (.bl .sorted (.cons (.fz (.lc [2, 3] (.tup (.cons (.nm 2) (.cons (.nm 3) .nil))) (.seq (.var 1)) (.tup (.cons (.var 2) (.cons (.bin .mod (.bin .sub (.int 1) (.var 3)) (.ix (.ixv 0 (.int 0)) (.var 2))) .nil))))) .nil))) .nil)))
  .nil)
def F__mirrored : List PyData → Oc PyData := runD [] [] 4 2 i__mirrored
def i_mirror : Ss :=
  (.cons (.ex (.call 0 (.cons (.var 0) .nil)))
  (.cons (.ret (.call 1 (.cons (.ixv 0 (.int 0)) (.cons (.fz (.lc [1] (.nm 1) (.seq (.ixv 0 (.int 1))) (.call 2 (.cons (.var 0) (.cons (.var 1) .nil))))) .nil))))
  .nil))
def F_mirror : List PyData → Oc PyData := runD [.dd F_need_machine, .dd F_machine_of, .dd F__mirrored] [] 2 1 i_mirror
def i_turned_about : Ss :=
  (.cons (.ret (.bi .tuple (.cons (.fz (.lc [1] (.nm 1) (.seq (.var 0)) (.bin .add (.slT (.var 1) .no (.so (.int 1))) (.bk (.var 1) .no (.so (.int 0)))))) .nil)))
  .nil)
def F_turned_about : List PyData → Oc PyData := runD [] [] 2 1 i_turned_about
def i_halves_on : Ss :=
  (.cons (.asgLL 2 [5] (.nm 5) (.seq (.ixv 0 (.int 0))) (.rep (.lst (.cons (.tup (.cons (.int 0) (.cons (.int 1) .nil))) .nil)) (.var 5)))
  (.cons (.for_ (.tup (.cons (.nm 3) (.cons (.nm 4) .nil))) (.seq (.ix (.ixv 0 (.int 1)) (.var 1)))
    ((.cons (.setLL 2 (.var 3) (.var 4) (.tup (.cons (.int 1) (.cons (.int 2) .nil))))
     .nil)))
  (.cons (.ret (.call 0 (.cons (.var 2) .nil)))
  .nil)))
def F_halves_on : List PyData → Oc PyData := runD [.dd F__load_of] [] 6 2 i_halves_on
def i_row_of : Ss :=
  (.cons (.ex (.call 0 (.cons (.var 0) (.cons (.var 1) .nil))))
  (.cons (.ex (.call 1 (.cons (.var 2) .nil)))
  (.cons (.asg 3 (.call 2 (.cons (.var 0) .nil)))
  (.cons (.asg 4 (.call 3 (.cons (.call 4 (.cons (.var 0) (.cons (.var 1) .nil))) .nil)))
  (.cons (.for_ (.nm 5) (.rng (.var 2))
    ((.cons (.asg 4 (.call 5 (.cons (.var 3) (.cons (.var 4) .nil))))
     .nil)))
  (.cons (.ret (.call 3 (.cons (.var 4) .nil)))
  .nil))))))
def F_row_of : List PyData → Oc PyData := runD [.dd F_need_touch, .dd F_need_beats, .dd F_mirror, .dd F_turned_about, .dd F_halves_on, .dd F_next_load] [] 6 3 i_row_of
end
end Ewl
-- B2
set_option Elab.async false
set_option linter.all false
set_option maxRecDepth 100000
set_option maxHeartbeats 4000000
namespace Ewl
open PySem L2
noncomputable section
def i_fraction : Ss :=
  (.cons (.ife (.ors (.cons (.nt (.val (.call 0 (.cons (.var 0) .nil)))) (.one (.nt (.val (.call 0 (.cons (.var 1) .nil)))))))
    ((.cons .bad
     .nil))
    (.nil))
  (.cons (.ife (.val (.cmp .eq (.var 1) (.int 0)))
    ((.cons .bad
     .nil))
    (.nil))
  (.cons (.ret (.call 1 (.cons (.var 0) (.cons (.var 1) .nil))))
  .nil)))
def F_fraction : List PyData → Oc PyData := runD [.dd F_is_whole, .dd F_lowest] [] 2 2 i_fraction
def i_is_load : Ss :=
  (.cons (.tryT
    ((.cons (.ex (.call 0 (.cons (.var 0) (.cons (.var 1) .nil))))
     .nil)))
  (.cons (.ret (.bl true))
  .nil))
def F_is_load : List PyData → Oc PyData := runD [.dd F_need_load] [] 2 2 i_is_load
def i_total : Ss :=
  (.cons (.asg 1 (.int 1))
  (.cons (.for_ (.tup (.cons (.nm 2) (.cons (.nm 3) .nil))) (.seq (.var 0))
    ((.cons (.asg 1 (.bi .lcm (.cons (.var 1) (.cons (.var 3) .nil))))
     .nil)))
  (.cons (.ret (.call 0 (.cons (.bi .sum (.cons (.fz (.lc [3, 4] (.tup (.cons (.nm 4) (.cons (.nm 3) .nil))) (.seq (.var 0)) (.bin .mul (.var 4) (.bin .fdiv (.var 1) (.var 3))))) .nil)) (.cons (.var 1) .nil))))
  .nil)))
def F_total : List PyData → Oc PyData := runD [.dd F_lowest] [] 5 1 i_total
def i_times : Ss :=
  (.cons (.ret (.call 0 (.cons (.bin .mul (.ixv 0 (.int 0)) (.ixv 1 (.int 0))) (.cons (.bin .mul (.ixv 0 (.int 1)) (.ixv 1 (.int 1))) .nil))))
  .nil)
def F_times : List PyData → Oc PyData := runD [.dd F_lowest] [] 2 2 i_times
def i_squares : Ss :=
  (.cons (.ex (.call 0 (.cons (.var 0) (.cons (.var 1) .nil))))
  (.cons (.ret (.call 1 (.cons (.fz (.lc2 [2, 3] [3] (.nm 2) (.seq (.var 1)) (.nm 3) (.seq (.var 2)) (.call 2 (.cons (.var 3) (.cons (.var 3) .nil))))) .nil)))
  .nil))
def F_squares : List PyData → Oc PyData := runD [.dd F_need_load, .dd F_total, .dd F_times] [] 4 2 i_squares
def i__law_squares : Ss :=
  (.cons (.asg 1 (.tup (.cons (.int 0) (.cons (.int 1) .nil))))
  (.cons (.for_ (.nm 2) (.seq (.var 0))
    ((.cons (.for_ (.tup (.cons (.nm 3) (.cons (.nm 4) .nil))) (.seq (.var 2))
       ((.cons (.asg 1 (.call 0 (.cons (.var 1) (.cons (.call 1 (.cons (.bin .mul (.var 3) (.var 3)) (.cons (.bin .mul (.var 4) (.var 4)) .nil))) .nil))))
        .nil)))
     .nil)))
  (.cons (.ret (.var 1))
  .nil)))
def F__law_squares : List PyData → Oc PyData := runD [.dd F__law_plus, .dd F__law_lowest] [] 5 1 i__law_squares
def i__law_met : Ss :=
  (.cons (.asg 2 (.tup (.cons (.int 0) (.cons (.int 1) .nil))))
  (.cons (.for_ (.tup (.cons (.tup (.cons (.nm 3) (.cons (.nm 4) .nil))) (.cons (.tup (.cons (.nm 5) (.cons (.nm 6) .nil))) .nil))) (.seq (.ixv 0 (.int 1)))
    ((.cons (.asg 7 (.call 0 (.cons (.ix (.ixv 1 (.var 3)) (.var 4)) (.cons (.tup (.cons (.bin .sub (.int 0) (.ix (.ix (.ixv 1 (.var 5)) (.var 6)) (.int 0))) (.cons (.ix (.ix (.ixv 1 (.var 5)) (.var 6)) (.int 1)) .nil))) .nil))))
     (.cons (.asg 2 (.call 0 (.cons (.var 2) (.cons (.call 1 (.cons (.bin .mul (.ixv 7 (.int 0)) (.ixv 7 (.int 0))) (.cons (.bin .mul (.bin .mul (.int 2) (.ixv 7 (.int 1))) (.ixv 7 (.int 1))) .nil))) .nil))))
     .nil))))
  (.cons (.ret (.var 2))
  .nil)))
def F__law_met : List PyData → Oc PyData := runD [.dd F__law_plus, .dd F__law_lowest] [] 8 2 i__law_met
def i_beat : Ss :=
  (.cons (.ex (.call 0 (.cons (.var 0) (.cons (.var 1) .nil))))
  (.cons (.ret (.call 1 (.cons (.var 0) (.cons (.var 1) .nil))))
  .nil))
def F_beat : List PyData → Oc PyData := runD [.dd F_need_load, .dd F_next_load] [] 2 2 i_beat
def i_read : Ss :=
  (.cons (.ex (.call 0 (.cons (.var 0) (.cons (.var 1) .nil))))
  (.cons (.ret (.call 1 (.cons (.var 0) (.cons (.var 1) .nil))))
  .nil))
def F_read : List PyData → Oc PyData := runD [.dd F_need_load, .dd F__read] [] 2 2 i_read
def i_held : Ss :=
  (.cons (.ex (.call 0 (.cons (.var 0) (.cons (.var 1) .nil))))
  (.cons (.ret (.call 1 (.cons (.fz (.lc2 [2, 3] [3] (.nm 2) (.seq (.var 1)) (.nm 3) (.seq (.var 2)) (.var 3))) .nil)))
  .nil))
def F_held : List PyData → Oc PyData := runD [.dd F_need_load, .dd F_total] [] 4 2 i_held
def i_behind : Ss :=
  (.cons (.ex (.call 0 (.cons (.var 0) (.cons (.var 1) .nil))))
  (.cons (.ex (.call 1 (.cons (.var 2) .nil)))
  (.cons (.asg 3 (.var 1))
  (.cons (.for_ (.nm 4) (.rng (.var 2))
    ((.cons (.asg 3 (.call 2 (.cons (.var 0) (.cons (.var 3) .nil))))
     .nil)))
  (.cons (.ret (.var 3))
  .nil)))))
def F_behind : List PyData → Oc PyData := runD [.dd F_need_load, .dd F_need_beats, .dd F_next_load] [] 5 3 i_behind
def i__law_goes_right : Ss :=
  (.cons (.par [3, 4, 5] (.e (.var 1) (.l (.lst .nil) (.e (.call 0 (.cons (.var 0) (.cons (.var 1) .nil))) .nil))))
  (.cons (.ife (.val (.cmp .ne (.var 5) (.call 1 (.cons (.var 1) .nil))))
    ((.cons (.ret (.bl false))
     .nil))
    (.nil))
  (.cons (.for_ (.nm 6) (.rng (.var 2))
    ((.cons (.app 4 (.call 2 (.cons (.var 0) (.cons (.var 3) .nil))))
     (.cons (.par [7, 8] (.e (.call 4 (.cons (.var 0) (.cons (.var 3) .nil))) (.e (.call 3 (.cons (.var 0) (.cons (.var 3) .nil))) .nil)))
     (.cons (.ife (.ors (.cons (.val (.cmp .ne (.call 6 (.cons (.var 0) (.cons (.var 3) .nil))) (.ixv 4 (.neg (.int 1))))) (.one (.val (.cmp .ne (.call 5 (.cons (.var 0) (.cons (.var 3) .nil))) (.var 7))))))
       ((.cons (.ret (.bl false))
        .nil))
       (.nil))
     (.cons (.ife (.val (.cmp .ne (.call 7 (.cons (.var 0) (.cons (.var 7) .nil))) (.call 7 (.cons (.var 0) (.cons (.var 1) .nil)))))
       ((.cons (.ret (.bl false))
        .nil))
       (.nil))
     (.cons (.ife (.val (.cmp .ne (.call 8 (.cons (.call 0 (.cons (.var 0) (.cons (.var 7) .nil))) (.cons (.var 8) .nil))) (.call 0 (.cons (.var 0) (.cons (.var 3) .nil)))))
       ((.cons (.ret (.bl false))
        .nil))
       (.nil))
     (.cons (.asg 3 (.var 7))
     .nil))))))))
  (.cons (.ife (.ors (.cons (.val (.cmp .ne (.call 10 (.cons (.var 0) (.cons (.var 1) (.cons (.var 2) .nil)))) (.var 3))) (.one (.val (.cmp .ne (.call 9 (.cons (.var 0) (.cons (.var 1) (.cons (.var 2) .nil)))) (.var 4))))))
    ((.cons (.ret (.bl false))
     .nil))
    (.nil))
  (.cons (.asg 9 (.bin .fdiv (.var 2) (.int 2)))
  (.cons (.ret (.cmp .eq (.call 10 (.cons (.var 0) (.cons (.call 10 (.cons (.var 0) (.cons (.var 1) (.cons (.var 9) .nil)))) (.cons (.bin .sub (.var 2) (.var 9)) .nil)))) (.var 3)))
  .nil))))))
def F__law_goes_right : List PyData → Oc PyData := runD [.dd F_squares, .dd F__law_squares, .dd F__law_read, .dd F__law_met, .dd F__law_beat, .dd F_beat, .dd F_read, .dd F_held, .dd F_plus, .dd F_readings, .dd F_behind] [] 10 3 i__law_goes_right
def i_added : Ss :=
  (.cons (.ex (.call 0 (.cons (.var 0) (.cons (.var 1) .nil))))
  (.cons (.ex (.call 0 (.cons (.var 0) (.cons (.var 2) .nil))))
  (.cons (.ret (.bi .tuple (.cons (.fz (.lc [3, 4] (.tup (.cons (.nm 3) (.cons (.nm 4) .nil))) (.zip (.var 1) (.var 2)) (.bi .tuple (.cons (.fz (.lc [5, 6] (.tup (.cons (.nm 5) (.cons (.nm 6) .nil))) (.zip (.var 3) (.var 4)) (.call 1 (.cons (.var 5) (.cons (.var 6) .nil))))) .nil)))) .nil)))
  .nil)))
def F_added : List PyData → Oc PyData := runD [.dd F_need_load, .dd F_plus] [] 7 3 i_added
def i_need_fraction : Ss :=
  (.cons (.ife (.nt (.val (.call 0 (.cons (.var 0) .nil))))
    ((.cons .bad
     .nil))
    (.nil))
  .nil)
def F_need_fraction : List PyData → Oc PyData := runD [.dd F_is_fraction] [] 1 1 i_need_fraction
def i_scaled : Ss :=
  (.cons (.ex (.call 0 (.cons (.var 0) (.cons (.var 1) .nil))))
  (.cons (.ex (.call 1 (.cons (.var 2) .nil)))
  (.cons (.ret (.bi .tuple (.cons (.fz (.lc [3] (.nm 3) (.seq (.var 1)) (.bi .tuple (.cons (.fz (.lc [4] (.nm 4) (.seq (.var 3)) (.call 2 (.cons (.var 4) (.cons (.var 2) .nil))))) .nil)))) .nil)))
  .nil)))
def F_scaled : List PyData → Oc PyData := runD [.dd F_need_load, .dd F_need_fraction, .dd F_times] [] 5 3 i_scaled
def i_empty : Ss :=
  (.cons (.ex (.call 0 (.cons (.var 0) .nil)))
  (.cons (.ret (.bi .tuple (.cons (.fz (.lc [1] (.nm 1) (.seq (.ixv 0 (.int 0))) (.bin .mul (.tup (.cons (.tup (.cons (.int 0) (.cons (.int 1) .nil))) .nil)) (.var 1)))) .nil)))
  .nil))
def F_empty : List PyData → Oc PyData := runD [.dd F_need_machine] [] 2 1 i_empty
def i_spots : Ss :=
  (.cons (.ex (.call 0 (.cons (.var 0) .nil)))
  (.cons (.ret (.bi .tuple (.cons (.fz (.lc2 [1, 2, 3] [3] (.tup (.cons (.nm 1) (.cons (.nm 2) .nil))) (.enum (.ixv 0 (.int 0))) (.nm 3) (.rng (.var 2)) (.tup (.cons (.var 1) (.cons (.var 3) .nil))))) .nil)))
  .nil))
def F_spots : List PyData → Oc PyData := runD [.dd F_need_machine] [] 4 1 i_spots
def i_need_spot_on : Ss :=
  (.cons (.ife (.nt (.val (.call 0 (.cons (.var 0) (.cons (.var 1) .nil)))))
    ((.cons .bad
     .nil))
    (.nil))
  .nil)
def F_need_spot_on : List PyData → Oc PyData := runD [.dd F_is_spot_of] [] 2 2 i_need_spot_on
def i_need_spot : Ss :=
  (.cons (.ex (.call 0 (.cons (.var 0) .nil)))
  (.cons (.ex (.call 1 (.cons (.ixv 0 (.int 0)) (.cons (.var 1) .nil))))
  .nil))
def F_need_spot : List PyData → Oc PyData := runD [.dd F_need_machine, .dd F_need_spot_on] [] 2 2 i_need_spot
def i_one_at : Ss :=
  (.cons (.ex (.call 0 (.cons (.var 0) (.cons (.var 1) .nil))))
  (.cons (.asgLL 2 [3] (.nm 3) (.seq (.ixv 0 (.int 0))) (.rep (.lst (.cons (.tup (.cons (.int 0) (.cons (.int 1) .nil))) .nil)) (.var 3)))
  (.cons (.setLL 2 (.ixv 1 (.int 0)) (.ixv 1 (.int 1)) (.tup (.cons (.int 1) (.cons (.int 1) .nil))))
  (.cons (.ret (.call 1 (.cons (.var 2) .nil)))
  .nil))))
def F_one_at : List PyData → Oc PyData := runD [.dd F_need_spot, .dd F__load_of] [] 4 2 i_one_at
def i__law_adds_right : Ss :=
  (.cons (.asg 5 (.call 0 (.cons (.var 0) (.cons (.var 1) (.cons (.call 1 (.cons (.var 0) (.cons (.var 2) (.cons (.var 3) .nil)))) .nil)))))
  (.cons (.for_ (.tup (.cons (.nm 6) (.cons (.nm 7) (.cons (.nm 8) .nil)))) (.zip3 (.var 5) (.var 1) (.var 2))
    ((.cons (.ife (.val (.cmp .ne (.fz (.bl .list (.cons (.var 6) .nil))) (.fz (.lc [14, 15] (.tup (.cons (.nm 14) (.cons (.nm 15) .nil))) (.zip (.var 7) (.var 8)) (.call 2 (.cons (.var 14) (.cons (.call 3 (.cons (.var 15) (.cons (.var 3) .nil))) .nil)))))))
       ((.cons (.ret (.bl false))
        .nil))
       (.nil))
     .nil)))
  (.cons (.asg 9 (.call 0 (.cons (.var 0) (.cons (.call 4 (.cons (.var 0) (.cons (.var 1) (.cons (.var 4) .nil)))) (.cons (.call 1 (.cons (.var 0) (.cons (.call 4 (.cons (.var 0) (.cons (.var 2) (.cons (.var 4) .nil)))) (.cons (.var 3) .nil)))) .nil)))))
  (.cons (.ife (.ors (.cons (.val (.cmp .ne (.call 4 (.cons (.var 0) (.cons (.var 5) (.cons (.var 4) .nil)))) (.var 9))) (.one (.val (.cmp .ne (.call 0 (.cons (.var 0) (.cons (.var 1) (.cons (.call 5 (.cons (.var 0) .nil)) .nil)))) (.var 1))))))
    ((.cons (.ret (.bl false))
     .nil))
    (.nil))
  (.cons (.asg 10 (.call 5 (.cons (.var 0) .nil)))
  (.cons (.for_ (.tup (.cons (.nm 11) (.cons (.nm 12) .nil))) (.seq (.call 6 (.cons (.var 0) .nil)))
    ((.cons (.asg 13 (.call 1 (.cons (.var 0) (.cons (.call 7 (.cons (.var 0) (.cons (.tup (.cons (.var 11) (.cons (.var 12) .nil))) .nil))) (.cons (.ix (.ixv 1 (.var 11)) (.var 12)) .nil)))))
     (.cons (.asg 10 (.call 0 (.cons (.var 0) (.cons (.var 10) (.cons (.var 13) .nil)))))
     .nil))))
  (.cons (.ret (.cmp .eq (.var 10) (.var 1)))
  .nil)))))))
def F__law_adds_right : List PyData → Oc PyData := runD [.dd F_added, .dd F_scaled, .dd F_plus, .dd F_times, .dd F_behind, .dd F_empty, .dd F_spots, .dd F_one_at] [] 16 5 i__law_adds_right
def i_less : Ss :=
  (.cons (.ret (.call 0 (.cons (.bin .sub (.bin .mul (.ixv 0 (.int 0)) (.ixv 1 (.int 1))) (.bin .mul (.ixv 1 (.int 0)) (.ixv 0 (.int 1)))) (.cons (.bin .mul (.ixv 0 (.int 1)) (.ixv 1 (.int 1))) .nil))))
  .nil)
def F_less : List PyData → Oc PyData := runD [.dd F_lowest] [] 2 2 i_less
end
end Ewl
-- Dk02
set_option Elab.async false
set_option linter.all false
set_option maxRecDepth 100000
set_option maxHeartbeats 4000000
namespace Ewl
open PySem L2
noncomputable section
def i_law_v2 : Ss :=
  (.cons (.for_ (.tup (.cons (.nm 1) (.cons (.nm 2) .nil))) (.enum (.fz (.cat (.fz (.slc (.var 0) .no (.so (.int 3)))) (.fz (.lst (.cons (.bi .sum (.cons (.var 0) .nil)) .nil))))))
    ((.cons (.asgK 3 0 (.cons (.var 2) (.cons (.var 1) .nil)))
     (.cons (.asg 4 (.callS 1 3 (.cons (.int 18) .nil)))
     (.cons (.par [5, 6] (.e (.callS 2 3 (.cons (.ixv 4 (.int 0)) (.cons (.int 9) .nil))) (.e (.callS 2 3 (.cons (.ixv 4 (.int 0)) (.cons (.int 40) .nil))) .nil)))
     (.cons (.asg 7 (.call 3 (.cons (.bin .sub (.callS 4 3 (.cons (.int 19) .nil)) (.int 9)) (.cons (.bin .add (.int 1) (.callS 4 3 (.cons (.int 5) .nil))) .nil))))
     (.cons (.ife (.ors (.cons (.nt (.val (.call 6 (.cons (.var 4) (.cons (.var 5) .nil))))) (.one (.val (.cmp .isN (.call 5 (.cons (.var 4) (.cons (.var 6) .nil))) .non)))))
       ((.cons (.ret (.bl false))
        .nil))
       (.nil))
     (.cons (.ife (.nt (.val (.call 7 (.cons (.var 4) (.cons (.var 5) (.cons (.callS 4 3 (.cons (.int 13) .nil)) .nil))))))
       ((.cons (.ret (.bl false))
        .nil))
       (.nil))
     (.cons (.ife (.nt (.val (.call 8 (.cons (.var 4) (.cons (.var 5) (.cons (.var 6) (.cons (.var 7) (.cons (.callS 4 3 (.cons (.int 5) .nil)) .nil))))))))
       ((.cons (.ret (.bl false))
        .nil))
       (.nil))
     (.cons (.ife (.ors (.cons (.val (.cmp .ne (.call 11 (.cons (.var 7) (.cons (.var 7) .nil))) (.tup (.cons (.int 0) (.cons (.int 1) .nil))))) (.one (.val (.cmp .ne (.call 9 (.cons (.call 10 (.cons (.var 7) .nil)) (.cons (.call 10 (.cons (.var 7) .nil)) .nil))) (.var 7))))))
       ((.cons (.ret (.bl false))
        .nil))
       (.nil))
     .nil))))))))))
  (.cons (.ret (.bl true))
  .nil))
def F_law_v2 : List PyData → Oc PyData := runD [.kk F__law_draw, .ss F__law_machine, .ss F__law_load, .dd F_fraction, .ss F__law_digit, .dd F_need_load, .dd F_is_load, .dd F__law_goes_right, .dd F__law_adds_right, .dd F_plus, .dd F_half, .dd F_less] [] 8 1 i_law_v2
end
end Ewl
-- RD13
set_option Elab.async false
set_option linter.all false
set_option maxRecDepth 100000
set_option maxHeartbeats 4000000
/-! Defs with a default number, called with all their arguments. -/
namespace Ewl
open PySem L2 PyProof.Rows
structure FunV (K : PySem.W.Frag) (x qual : Str) (st : Stmt) (f : Addr) (fd : FuncData) : Prop where
  ex : ∃ (oc : Value) (od : Option Addr) (dv kV doc pm : Value) (an : Option Addr) (cdv ct : Value) (osl : Array (Option Value)),
    fd = PySem.W.fnOf x qual (defArgs st) (defBody st) (defScope st) dv kV doc pm an cdv ct ∧ K.lookup f = some ⟨oc, od, .func fd, osl⟩ ∧ PySem.W.codeIn K cdv qual = true
theorem fn_atV {A0 : Around} {P : Program} {w : World} {K : PySem.W.Frag} {mg : Str → Option Value} {base : Heap} {x qual : Str} {st : Stmt} {f : Addr} {fd : FuncData} {N ps : List Str} {k : Nat} {sp : Sp} (hr : Room (k + 1) A0) (F : FunV K x qual st f fd) (S : FnScope N ps (defScope st))
    (len : ∀ vs H Q E, sp vs H Q E → vs.length = ps.length)
    (hb : ∀ (cdv : Value) (outer : List Env) (s : Shared) (H : Hp) (vs : List V) (Q : VK) (E : XK), Room k (A0.deeper (envOfC qual (defScope st) s.heap.objs.size f cdv)) → sp vs H Q E →
      WB (cxOf CX0 P w K mg base N qual (defScope st) f cdv A0 outer s H E).nox (defBody st) { nx := fun _ H' => Q .non H', rt := Q } (L2.start N vs) H) : FnAt A0 P w K mg base f fd ps sp := by
  obtain ⟨oc, od, dv, kV, doc, pm, an, cdv, ct, osl, rfl, lk, hcd⟩ := F.ex
  refine ⟨len, fun outer s H args us vs Q E e0 bt rv hsp => ?_⟩
  have kin : K.In s.heap := e0.mod.kin.keeps fun b o e => (e0.bs b o e).1
  have nol : s.heap.NoLimit := e0.mod.nolimit.keeps fun b o e => (e0.bs b o e).1
  have slots : ∀ y ∈ ps.zip us, (defScope st).names.lookup y.1 = some .local ∨ ((defScope st).names.lookup y.1 = some .cell ∧ ((cellsFrom (s.heap.objs.size + 1) (defScope st).names []).lookup y.1).isSome = true) := fun y hy =>
    (S.par y.1 (List.of_mem_zip hy).1).imp id fun q => ⟨q, PySem.W.cellsFrom_some _ _ _ (.inl q)⟩
  refine codeAny_call_function hr.depth (kin _ _ lk) rfl S.co S.gen rfl (PySem.W.codeRec_of kin hcd) (bt _ _ _ _ (wpAny_newFunctionEnv_cells S.kind slots fun env he s1 y => ?_))
  subst he
  refine ⟨nol.keeps y.toInCall.keep, codeAny_func ?_⟩
  have I := inv_start (CX := CX0) (E := E) S hr.hd e0 (len _ _ _ _ hsp) rv y
  have body := (PSs.nox (X := cxOf CX0 P w K mg base N qual (defScope st) f cdv A0 outer s H E) (st := defBody st) pss_W).run [] s1 (L2.start N vs) H { nx := fun _ H' => Q .non H', rt := Q } I (hb cdv outer s H vs Q E (hr.deeper _) hsp)
  refine wpAny_mono body (fun fl s' hs => ?_) fun e s' hs => hs
  cases fl with
  | next => obtain ⟨σ', H', J, q⟩ := hs; exact ⟨V.non, H', J.os, J.bare, J.base, J.hok, rfl, q⟩
  | ret u => obtain ⟨v, σ', H', J, r', q⟩ := hs; exact ⟨v, H', J.os, J.bare, J.base, J.hok, r', q⟩
  | brk => obtain ⟨_, _, _, q⟩ := hs; exact q.elim
  | cont => obtain ⟨_, _, _, q⟩ := hs; exact q.elim
theorem at_DV {P : Program} {w : World} {K : PySem.W.Frag} {mg : Str → Option Value} {base : Heap} {x qual : Str} {st : Stmt} {f : Addr} {fd : FuncData} {ps : List Str} {c : Ck} {tb : List Fk} {gi : List (Str × Int)} {n : Nat} {body : Ss} (F : FunV K x qual st f fd) (S : FnScope c.N ps (defScope st)) (hsc : c.sc = defScope st) (hfn : c.fnc = fun _ => true) (hc : chkSs c body (defBody st) = true)
    (ev : NamesOk mg c gi) (tab : TabOk P w K mg base n c.fs tb) (A0 : Around) (hG : A0.guards = some []) (hr : Room (n + 1) A0) : FnAt A0 P w K mg base f fd ps (spD K fun ds z => runD tb gi c.N.length ps.length body ds = .ok z) := by
  refine fn_atV hr F S (fun vs H Q E h => ?_) fun cdv outer s H vs Q E hr' h => ?_
  · obtain ⟨G, ds, z, _, r, hg, _⟩ := h
    rw [dpAll_len r]
    unfold runD at hg
    split at hg
    · rename_i hl; exact hl
    · cases hg
  · obtain ⟨G, ds, z, sx, r, hg, q⟩ := h
    unfold runD at hg
    split at hg
    · rename_i hl
      have g := good_of (s := s) (f := f) (qual := qual) (cdv := cdv) (outer := outer) (H := H) (E := E) rfl hsc hfn S.nd hG hr' ev tab
      cases hd : denSs tb gi body (ds.map Sl.d ++ List.replicate (c.N.length - ds.length) Sl.x) with
      | un => rw [hd] at hg; cases hg
      | ex _ _ => rw [hd] at hg; cases hg
      | ok rr =>
        rw [hd] at hg
        have sv := sSs body g hc hd
        cases rr with
        | ret sl z' =>
          cases hg
          exact sv (en_start sx r) _ fun v σ G' H' E' g' r' => q v G' H' E'.gw r'
        | nx sl =>
          cases hg
          exact sv (en_start sx r) _ fun σ G' H' E' g' => q .non G' H' E'.gw .non
    · cases hg
structure DefStV (K : PySem.W.Frag) (x : Str) (st : Stmt) (m : Int) : Prop where
  ex : ∃ (f : Addr) (oc : Value) (od : Option Addr) (T : Addr) (kV dc pm : Value) (an : Option Addr) (cd ct : Value) (sl : Array (Option Value)) (o : Obj) (tk : Tok) (n : Nat),
    PySem.W.nsIn K mainGlobals x = some (some (.ref f)) ∧ K.lookup f = some ⟨oc, od, .func (PySem.W.fnOf x x (defArgs st) (defBody st) (defScope st) (.ref T) kV dc pm an cd ct), sl⟩ ∧ PySem.W.codeIn K cd x = true ∧ PySem.W.keepIn K (.ref f) = true ∧ K.lookup T = some o ∧ o.data = .seq #[.int m tk] n
theorem DefStV.mk' {K : PySem.W.Frag} {x : Str} {st : Stmt} {m : Int} {f : Addr} {oc : Value} {od : Option Addr} {T : Addr} {kV dc pm : Value} {an : Option Addr} {cd ct : Value} {sl : Array (Option Value)} {oc2 : Value} {od2 : Option Addr} {sl2 : Array (Option Value)} {tk : Tok} {n : Nat}
    (a : PySem.W.nsIn K mainGlobals x = some (some (.ref f))) (l : K.lookup f = some ⟨oc, od, .func (PySem.W.fnOf x x (defArgs st) (defBody st) (defScope st) (.ref T) kV dc pm an cd ct), sl⟩) (c : PySem.W.codeIn K cd x = true) (k : PySem.W.keepIn K (.ref f) = true)
    (lT : K.lookup T = some ⟨oc2, od2, .seq #[.int m tk] n, sl2⟩) : DefStV K x st m :=
  ⟨f, oc, od, T, kV, dc, pm, an, cd, ct, sl, _, tk, n, a, l, c, k, lT, rfl⟩
/-- how a call's arguments are bound where all of them are told -/
def BindStV (x : Str) (st : Stmt) (ps : List Str) : Prop := ∀ (T : Addr) (kV doc pm : Value) (an : Option Addr) (cdv ct : Value) (us its : List Value), us.length = ps.length → its.length = 1 →
  ∃ k, bindArgs (PySem.W.fnOf x x (defArgs st) (defBody st) (defScope st) (.ref T) kV doc pm an cdv ct) ⟨us, []⟩ = seqItems? (.ref T) >>= k ∧ k (some its.toArray) = pure (ps.zip (us ++ its.drop 1))
section
variable {P : Program} {w : World} {K : PySem.W.Frag} {mg : Str → Option Value} {base h : Heap} {bs gs : List Str} {gi : List (Str × Int)}
theorem mkDV {x : Str} {st : Stmt} {ps : List Str} {n : Nat} {m : Int} {c : Ck} {tb : List Fk} {gi' : List (Str × Int)} {body : Ss} (X : K.In h) (G : h.Ns mainGlobals mg) (L : LawN mg bs gs gi) (D : DefStV K x st m) (hp : 1 ≤ ps.length) (hb : BindStV x st ps) (hB : defB bs gs gi st ps c gi' body = true) (hsc : c.sc = defScope st) (hfn : c.fnc = fun _ => true)
    (tab : TabOk P w K mg base n c.fs tb) : FkR P w K mg base x (n + 1) (.dd (runD tb gi' c.N.length ps.length body)) := by
  unfold defB at hB
  rw [Bool.and_eq_true, Bool.and_eq_true] at hB
  obtain ⟨f, oc, od, T, kV, dc, pm, an, cd, ct, sl, o, tk, k, a, l, cc, kp, lT, oT⟩ := D.ex
  have F : FunV K x x st f _ := ⟨oc, od, .ref T, kV, dc, pm, an, cd, ct, sl, rfl, l, cc⟩
  have FD : FunD K x x (defArgs st) (defBody st) (defScope st) [.int m] [] f (PySem.W.fnOf x x (defArgs st) (defBody st) (defScope st) (.ref T) kV dc pm an cd ct) :=
    ⟨⟨oc, od, .ref T, kV, dc, pm, an, cd, ct, sl, rfl, l, cc, .inr ⟨by simp, T, o, [.int m tk], k, rfl, lT, oT, .cons ⟨tk, rfl⟩ .nil⟩, .inl rfl⟩, kp⟩
  obtain ⟨ds, e, b⟩ := FD.binds1 (ps := ps) ps.length 1 (by simp) (by simp) hb
  cases e
  exact ⟨f, _, ps, PySem.W.mg_of X G a, kp, at_DV F (scopeB_of hB.1) hsc hfn hB.2.2 (L.sub hB.2.1) tab, b⟩
end
end Ewl
-- Ck02
set_option Elab.async false
set_option linter.all false
set_option maxRecDepth 100000
set_option maxHeartbeats 4000000
namespace Ewl
open PySem L2 PyProof.Rows
def top (i : Nat) : Stmt := PySem.Challenge.pw_evenwheels_k02_whole_beats_of_loads.main.body.getD i (.Pass ⟨0, 0, 0, 0⟩)
def bsL : List Str := ["abs", "enumerate", "int", "len", "list", "max", "min", "range", "sorted", "sum", "tuple", "type", "zip"]
def gsL : List Str := ["gcd", "lcm"]
def giL : List (Str × Int) := [("MOST_BEATS", 300), ("MOST_CELLS", 30), ("MOST_TOUCHES", 8), ("MOST_WHEELS", 16)]
def c__law_draw : Ck := { N := ["cell", "k"], sc := defScope (top 52), fnc := fun _ => true, fs := [], bs := [], gs := [] }
theorem k__law_draw : defKB bsL gsL giL (top 52) ["cell", "k"] c__law_draw [] "left" "cell" "turns" i__law_draw = true := by decide +kernel
theorem b__law_draw : BindSt "_law_draw" (top 52) ["cell", "k"] := fun _ _ _ _ _ _ us hl => match us, hl with | [_, _], _ => rfl
def c__law_mixed : Ck := { N := ["cell", "k", "mixed"], sc := defScope (top 51), fnc := fun _ => true, fs := [], bs := [], gs := [] }
theorem k__law_mixed : defB bsL gsL giL (top 51) ["cell", "k"] c__law_mixed [] i__law_mixed = true := by decide +kernel
theorem b__law_mixed : BindSt "_law_mixed" (top 51) ["cell", "k"] := fun _ _ _ _ _ _ us hl => match us, hl with | [_, _], _ => rfl
def c__law_digit : Ck := { N := ["state", "size", "j", "found"], sc := defScope (top 53), fnc := fun _ => true, fs := ["_law_mixed"], bs := ["range"], gs := [] }
theorem k__law_digit : defB bsL gsL giL (top 53) ["state", "size"] c__law_digit [] i__law_digit = true := by decide +kernel
theorem b__law_digit : BindSt "_law_digit" (top 53) ["state", "size"] := fun _ _ _ _ _ _ us hl => match us, hl with | [_, _], _ => rfl
def c__law_counts : Ck := { N := ["state", "most", "by", "found", "j", "one"], sc := defScope (top 54), fnc := fun _ => true, fs := ["_law_digit"], bs := ["int", "min", "range", "sum", "tuple"], gs := [] }
theorem k__law_counts : defB bsL gsL giL (top 54) ["state", "most"] c__law_counts [] i__law_counts = true := by decide +kernel
theorem b__law_counts : BindSt "_law_counts" (top 54) ["state", "most"] := fun _ _ _ _ _ _ us hl => match us, hl with | [_, _], _ => rfl
def c__law_touches : Ck := { N := ["state", "wheels", "most", "free", "found", "wheel", "count", "j", "one", "far", "at"], sc := defScope (top 55), fnc := fun _ => true, fs := ["_law_digit"], bs := ["enumerate", "len", "max", "min", "range", "sorted", "tuple"], gs := [] }
theorem k__law_touches : defB bsL gsL giL (top 55) ["state", "wheels", "most"] c__law_touches [] i__law_touches = true := by decide +kernel
theorem b__law_touches : BindSt "_law_touches" (top 55) ["state", "wheels", "most"] := fun _ _ _ _ _ _ us hl => match us, hl with | [_, _, _], _ => rfl
def c__law_machine : Ck := { N := ["state", "most", "wheels"], sc := defScope (top 56), fnc := fun _ => true, fs := ["_law_counts", "_law_touches"], bs := [], gs := [] }
theorem k__law_machine : defB bsL gsL giL (top 56) ["state", "most"] c__law_machine [] i__law_machine = true := by decide +kernel
theorem b__law_machine : BindSt "_law_machine" (top 56) ["state", "most"] := fun _ _ _ _ _ _ us hl => match us, hl with | [_, _], _ => rfl
def c__law_lowest : Ck := { N := ["top", "bottom", "one", "other"], sc := defScope (top 57), fnc := fun _ => true, fs := [], bs := ["abs"], gs := [] }
theorem k__law_lowest : defB bsL gsL giL (top 57) ["top", "bottom"] c__law_lowest [] i__law_lowest = true := by decide +kernel
theorem b__law_lowest : BindSt "_law_lowest" (top 57) ["top", "bottom"] := fun _ _ _ _ _ _ us hl => match us, hl with | [_, _], _ => rfl
def c__law_load : Ck := { N := ["state", "wheels", "span", "found", "count", "some", "j", "top", "bottom"], sc := defScope (top 59), fnc := fun _ => true, fs := ["_law_digit", "_law_lowest"], bs := ["range", "tuple"], gs := [] }
theorem k__law_load : defB bsL gsL giL (top 59) ["state", "wheels", "span"] c__law_load [] i__law_load = true := by decide +kernel
theorem b__law_load : BindSt "_law_load" (top 59) ["state", "wheels", "span"] := fun _ _ _ _ _ _ us hl => match us, hl with | [_, _, _], _ => rfl
def c_is_whole : Ck := { N := ["thing"], sc := defScope (top 8), fnc := fun _ => true, fs := [], bs := ["int", "type"], gs := [] }
theorem k_is_whole : defB bsL gsL giL (top 8) ["thing"] c_is_whole [] i_is_whole = true := by decide +kernel
theorem b_is_whole : BindSt "is_whole" (top 8) ["thing"] := fun _ _ _ _ _ _ us hl => match us, hl with | [_], _ => rfl
def c_lowest : Ck := { N := ["top", "bottom", "common"], sc := defScope (top 12), fnc := fun _ => true, fs := [], bs := [], gs := ["gcd"] }
theorem k_lowest : defB bsL gsL giL (top 12) ["top", "bottom"] c_lowest [] i_lowest = true := by decide +kernel
theorem b_lowest : BindSt "lowest" (top 12) ["top", "bottom"] := fun _ _ _ _ _ _ us hl => match us, hl with | [_, _], _ => rfl
def c_fraction : Ck := { N := ["top", "bottom"], sc := defScope (top 13), fnc := fun _ => true, fs := ["is_whole", "lowest"], bs := [], gs := [] }
theorem k_fraction : defB bsL gsL giL (top 13) ["top", "bottom"] c_fraction [] i_fraction = true := by decide +kernel
theorem b_fraction : BindStV "fraction" (top 13) ["top", "bottom"] := fun _ _ _ _ _ _ _ us its h1 h2 => match us, its, h1, h2 with | [_, _], [_], _, _ => ⟨_, rfl, rfl⟩
def c_is_tuple_of : Ck := { N := ["thing", "many"], sc := defScope (top 9), fnc := fun _ => true, fs := [], bs := ["len", "tuple", "type"], gs := [] }
theorem k_is_tuple_of : defB bsL gsL giL (top 9) ["thing", "many"] c_is_tuple_of [] i_is_tuple_of = true := by decide +kernel
theorem b_is_tuple_of : BindSt "is_tuple_of" (top 9) ["thing", "many"] := fun _ _ _ _ _ _ us hl => match us, hl with | [_, _], _ => rfl
def c_are_counts : Ck := { N := ["thing", "count"], sc := defScope (top 23), fnc := fun _ => true, fs := ["is_whole"], bs := ["len", "sum", "tuple", "type"], gs := [] }
theorem k_are_counts : defB bsL gsL giL (top 23) ["thing"] c_are_counts [("MOST_CELLS", 30), ("MOST_WHEELS", 16)] i_are_counts = true := by decide +kernel
theorem b_are_counts : BindSt "are_counts" (top 23) ["thing"] := fun _ _ _ _ _ _ us hl => match us, hl with | [_], _ => rfl
def c_is_spot_of : Ck := { N := ["counts", "thing", "wheel", "place"], sc := defScope (top 24), fnc := fun _ => true, fs := ["is_tuple_of", "is_whole"], bs := ["len"], gs := [] }
theorem k_is_spot_of : defB bsL gsL giL (top 24) ["counts", "thing"] c_is_spot_of [] i_is_spot_of = true := by decide +kernel
theorem b_is_spot_of : BindSt "is_spot_of" (top 24) ["counts", "thing"] := fun _ _ _ _ _ _ us hl => match us, hl with | [_, _], _ => rfl
def c_is_pair_of : Ck := { N := ["counts", "thing"], sc := defScope (top 25), fnc := fun _ => true, fs := ["is_spot_of", "is_tuple_of"], bs := [], gs := [] }
theorem k_is_pair_of : defB bsL gsL giL (top 25) ["counts", "thing"] c_is_pair_of [] i_is_pair_of = true := by decide +kernel
theorem b_is_pair_of : BindSt "is_pair_of" (top 25) ["counts", "thing"] := fun _ _ _ _ _ _ us hl => match us, hl with | [_, _], _ => rfl
def c_need_touches : Ck := { N := ["counts", "touches", "taken", "number", "pair"], sc := defScope (top 26), fnc := fun _ => true, fs := ["is_pair_of"], bs := ["enumerate"], gs := [] }
theorem k_need_touches : defB bsL gsL giL (top 26) ["counts", "touches"] c_need_touches [] i_need_touches = true := by decide +kernel
theorem b_need_touches : BindSt "need_touches" (top 26) ["counts", "touches"] := fun _ _ _ _ _ _ us hl => match us, hl with | [_, _], _ => rfl
def c_need_machine : Ck := { N := ["thing", "counts", "touches"], sc := defScope (top 27), fnc := fun _ => true, fs := ["is_tuple_of", "are_counts", "need_touches"], bs := ["len", "tuple", "type"], gs := [] }
theorem k_need_machine : defB bsL gsL giL (top 27) ["thing"] c_need_machine [("MOST_TOUCHES", 8)] i_need_machine = true := by decide +kernel
theorem b_need_machine : BindSt "need_machine" (top 27) ["thing"] := fun _ _ _ _ _ _ us hl => match us, hl with | [_], _ => rfl
def c_is_fraction : Ck := { N := ["thing", "top", "bottom"], sc := defScope (top 10), fnc := fun _ => true, fs := ["is_tuple_of", "is_whole"], bs := [], gs := ["gcd"] }
theorem k_is_fraction : defB bsL gsL giL (top 10) ["thing"] c_is_fraction [] i_is_fraction = true := by decide +kernel
theorem b_is_fraction : BindSt "is_fraction" (top 10) ["thing"] := fun _ _ _ _ _ _ us hl => match us, hl with | [_], _ => rfl
def c_need_load_on : Ck := { N := ["counts", "thing", "wheel", "count", "row", "place", "worth"], sc := defScope (top 34), fnc := fun _ => true, fs := ["is_tuple_of", "is_fraction"], bs := ["enumerate", "len"], gs := [] }
theorem k_need_load_on : defB bsL gsL giL (top 34) ["counts", "thing"] c_need_load_on [] i_need_load_on = true := by decide +kernel
theorem b_need_load_on : BindSt "need_load_on" (top 34) ["counts", "thing"] := fun _ _ _ _ _ _ us hl => match us, hl with | [_, _], _ => rfl
def c_need_load : Ck := { N := ["machine", "thing"], sc := defScope (top 33), fnc := fun _ => true, fs := ["need_machine", "need_load_on"], bs := [], gs := [] }
theorem k_need_load : defB bsL gsL giL (top 33) ["machine", "thing"] c_need_load [] i_need_load = true := by decide +kernel
theorem b_need_load : BindSt "need_load" (top 33) ["machine", "thing"] := fun _ _ _ _ _ _ us hl => match us, hl with | [_, _], _ => rfl
def c_is_load : Ck := { N := ["machine", "thing"], sc := defScope (top 35), fnc := fun _ => true, fs := ["need_load"], bs := [], gs := [] }
theorem k_is_load : defB bsL gsL giL (top 35) ["machine", "thing"] c_is_load [] i_is_load = true := by decide +kernel
theorem b_is_load : BindSt "is_load" (top 35) ["machine", "thing"] := fun _ _ _ _ _ _ us hl => match us, hl with | [_, _], _ => rfl
def c_total : Ck := { N := ["things", "bottom", "_", "under", "top"], sc := defScope (top 18), fnc := fun _ => true, fs := ["lowest"], bs := ["sum"], gs := ["lcm"] }
theorem k_total : defB bsL gsL giL (top 18) ["things"] c_total [] i_total = true := by decide +kernel
theorem b_total : BindSt "total" (top 18) ["things"] := fun _ _ _ _ _ _ us hl => match us, hl with | [_], _ => rfl
def c_times : Ck := { N := ["one", "other"], sc := defScope (top 16), fnc := fun _ => true, fs := ["lowest"], bs := [], gs := [] }
theorem k_times : defB bsL gsL giL (top 16) ["one", "other"] c_times [] i_times = true := by decide +kernel
theorem b_times : BindSt "times" (top 16) ["one", "other"] := fun _ _ _ _ _ _ us hl => match us, hl with | [_, _], _ => rfl
def c_squares : Ck := { N := ["machine", "load", "row", "worth"], sc := defScope (top 42), fnc := fun _ => true, fs := ["need_load", "total", "times"], bs := [], gs := [] }
theorem k_squares : defB bsL gsL giL (top 42) ["machine", "load"] c_squares [] i_squares = true := by decide +kernel
theorem b_squares : BindSt "squares" (top 42) ["machine", "load"] := fun _ _ _ _ _ _ us hl => match us, hl with | [_, _], _ => rfl
def c__law_plus : Ck := { N := ["one", "other"], sc := defScope (top 58), fnc := fun _ => true, fs := ["_law_lowest"], bs := [], gs := [] }
theorem k__law_plus : defB bsL gsL giL (top 58) ["one", "other"] c__law_plus [] i__law_plus = true := by decide +kernel
theorem b__law_plus : BindSt "_law_plus" (top 58) ["one", "other"] := fun _ _ _ _ _ _ us hl => match us, hl with | [_, _], _ => rfl
def c__law_squares : Ck := { N := ["load", "found", "row", "top", "bottom"], sc := defScope (top 62), fnc := fun _ => true, fs := ["_law_plus", "_law_lowest"], bs := [], gs := [] }
theorem k__law_squares : defB bsL gsL giL (top 62) ["load"] c__law_squares [] i__law_squares = true := by decide +kernel
theorem b__law_squares : BindSt "_law_squares" (top 62) ["load"] := fun _ _ _ _ _ _ us hl => match us, hl with | [_], _ => rfl
def c__law_read : Ck := { N := ["machine", "load", "found", "wheel", "at", "other", "spot", "both"], sc := defScope (top 60), fnc := fun _ => true, fs := ["_law_plus", "_law_lowest"], bs := ["tuple"], gs := [] }
theorem k__law_read : defB bsL gsL giL (top 60) ["machine", "load"] c__law_read [] i__law_read = true := by decide +kernel
theorem b__law_read : BindSt "_law_read" (top 60) ["machine", "load"] := fun _ _ _ _ _ _ us hl => match us, hl with | [_, _], _ => rfl
def c__law_met : Ck := { N := ["machine", "load", "found", "wheel", "at", "other", "spot", "gap"], sc := defScope (top 63), fnc := fun _ => true, fs := ["_law_plus", "_law_lowest"], bs := [], gs := [] }
theorem k__law_met : defB bsL gsL giL (top 63) ["machine", "load"] c__law_met [] i__law_met = true := by decide +kernel
theorem b__law_met : BindSt "_law_met" (top 63) ["machine", "load"] := fun _ _ _ _ _ _ us hl => match us, hl with | [_, _], _ => rfl
def c__law_beat : Ck := { N := ["machine", "load", "rows", "touch", "worth", "wheel", "at", "row"], sc := defScope (top 61), fnc := fun _ => true, fs := ["_law_read"], bs := ["len", "list", "range", "tuple", "zip"], gs := [] }
theorem k__law_beat : defB bsL gsL giL (top 61) ["machine", "load"] c__law_beat [] i__law_beat = true := by decide +kernel
theorem b__law_beat : BindSt "_law_beat" (top 61) ["machine", "load"] := fun _ _ _ _ _ _ us hl => match us, hl with | [_, _], _ => rfl
def c_half : Ck := { N := ["one"], sc := defScope (top 17), fnc := fun _ => true, fs := ["lowest"], bs := [], gs := [] }
theorem k_half : defB bsL gsL giL (top 17) ["one"] c_half [] i_half = true := by decide +kernel
theorem b_half : BindSt "half" (top 17) ["one"] := fun _ _ _ _ _ _ us hl => match us, hl with | [_], _ => rfl
def c_plus : Ck := { N := ["one", "other"], sc := defScope (top 14), fnc := fun _ => true, fs := ["lowest"], bs := [], gs := [] }
theorem k_plus : defB bsL gsL giL (top 14) ["one", "other"] c_plus [] i_plus = true := by decide +kernel
theorem b_plus : BindSt "plus" (top 14) ["one", "other"] := fun _ _ _ _ _ _ us hl => match us, hl with | [_, _], _ => rfl
def c__read : Ck := { N := ["machine", "load", "wheel", "place", "across", "beside"], sc := defScope (top 49), fnc := fun _ => true, fs := ["half", "plus"], bs := ["tuple"], gs := [] }
theorem k__read : defB bsL gsL giL (top 49) ["machine", "load"] c__read [] i__read = true := by decide +kernel
theorem b__read : BindSt "_read" (top 49) ["machine", "load"] := fun _ _ _ _ _ _ us hl => match us, hl with | [_, _], _ => rfl
def c__load_of : Ck := { N := ["rows", "row"], sc := defScope (top 48), fnc := fun _ => true, fs := [], bs := ["tuple"], gs := [] }
theorem k__load_of : defB bsL gsL giL (top 48) ["rows"] c__load_of [] i__load_of = true := by decide +kernel
theorem b__load_of : BindSt "_load_of" (top 48) ["rows"] := fun _ _ _ _ _ _ us hl => match us, hl with | [_], _ => rfl
def c_next_load : Ck := { N := ["machine", "load", "rows", "pair", "reading", "wheel", "place", "row"], sc := defScope (top 47), fnc := fun _ => true, fs := ["_read", "_load_of"], bs := ["list", "zip"], gs := [] }
theorem k_next_load : defB bsL gsL giL (top 47) ["machine", "load"] c_next_load [] i_next_load = true := by decide +kernel
theorem b_next_load : BindSt "next_load" (top 47) ["machine", "load"] := fun _ _ _ _ _ _ us hl => match us, hl with | [_, _], _ => rfl
def c_beat : Ck := { N := ["machine", "load"], sc := defScope (top 44), fnc := fun _ => true, fs := ["need_load", "next_load"], bs := [], gs := [] }
theorem k_beat : defB bsL gsL giL (top 44) ["machine", "load"] c_beat [] i_beat = true := by decide +kernel
theorem b_beat : BindSt "beat" (top 44) ["machine", "load"] := fun _ _ _ _ _ _ us hl => match us, hl with | [_, _], _ => rfl
def c_read : Ck := { N := ["machine", "load"], sc := defScope (top 43), fnc := fun _ => true, fs := ["need_load", "_read"], bs := [], gs := [] }
theorem k_read : defB bsL gsL giL (top 43) ["machine", "load"] c_read [] i_read = true := by decide +kernel
theorem b_read : BindSt "read" (top 43) ["machine", "load"] := fun _ _ _ _ _ _ us hl => match us, hl with | [_, _], _ => rfl
def c_held : Ck := { N := ["machine", "load", "row", "worth"], sc := defScope (top 41), fnc := fun _ => true, fs := ["need_load", "total"], bs := [], gs := [] }
theorem k_held : defB bsL gsL giL (top 41) ["machine", "load"] c_held [] i_held = true := by decide +kernel
theorem b_held : BindSt "held" (top 41) ["machine", "load"] := fun _ _ _ _ _ _ us hl => match us, hl with | [_, _], _ => rfl
def c_need_beats : Ck := { N := ["beats"], sc := defScope (top 36), fnc := fun _ => true, fs := ["is_whole"], bs := [], gs := [] }
theorem k_need_beats : defB bsL gsL giL (top 36) ["beats"] c_need_beats [("MOST_BEATS", 300)] i_need_beats = true := by decide +kernel
theorem b_need_beats : BindSt "need_beats" (top 36) ["beats"] := fun _ _ _ _ _ _ us hl => match us, hl with | [_], _ => rfl
def c_readings : Ck := { N := ["machine", "load", "beats", "found", "now", "_"], sc := defScope (top 46), fnc := fun _ => true, fs := ["need_load", "need_beats", "_read", "next_load"], bs := ["range"], gs := [] }
theorem k_readings : defB bsL gsL giL (top 46) ["machine", "load", "beats"] c_readings [] i_readings = true := by decide +kernel
theorem b_readings : BindSt "readings" (top 46) ["machine", "load", "beats"] := fun _ _ _ _ _ _ us hl => match us, hl with | [_, _, _], _ => rfl
def c_behind : Ck := { N := ["machine", "load", "beats", "now", "_"], sc := defScope (top 45), fnc := fun _ => true, fs := ["need_load", "need_beats", "next_load"], bs := ["range"], gs := [] }
theorem k_behind : defB bsL gsL giL (top 45) ["machine", "load", "beats"] c_behind [] i_behind = true := by decide +kernel
theorem b_behind : BindSt "behind" (top 45) ["machine", "load", "beats"] := fun _ _ _ _ _ _ us hl => match us, hl with | [_, _, _], _ => rfl
def c__law_goes_right : Ck := { N := ["machine", "load", "beats", "here", "told", "most", "turn", "after", "gone", "cut"], sc := defScope (top 64), fnc := fun _ => true, fs := ["squares", "_law_squares", "_law_read", "_law_met", "_law_beat", "beat", "read", "held", "plus", "readings", "behind"], bs := ["range"], gs := [] }
theorem k__law_goes_right : defB bsL gsL giL (top 64) ["machine", "load", "beats"] c__law_goes_right [] i__law_goes_right = true := by decide +kernel
theorem b__law_goes_right : BindSt "_law_goes_right" (top 64) ["machine", "load", "beats"] := fun _ _ _ _ _ _ us hl => match us, hl with | [_, _, _], _ => rfl
def c_added : Ck := { N := ["machine", "load", "other", "row", "beside", "worth", "more"], sc := defScope (top 39), fnc := fun _ => true, fs := ["need_load", "plus"], bs := ["tuple", "zip"], gs := [] }
theorem k_added : defB bsL gsL giL (top 39) ["machine", "load", "other"] c_added [] i_added = true := by decide +kernel
theorem b_added : BindSt "added" (top 39) ["machine", "load", "other"] := fun _ _ _ _ _ _ us hl => match us, hl with | [_, _, _], _ => rfl
def c_need_fraction : Ck := { N := ["thing"], sc := defScope (top 11), fnc := fun _ => true, fs := ["is_fraction"], bs := [], gs := [] }
theorem k_need_fraction : defB bsL gsL giL (top 11) ["thing"] c_need_fraction [] i_need_fraction = true := by decide +kernel
theorem b_need_fraction : BindSt "need_fraction" (top 11) ["thing"] := fun _ _ _ _ _ _ us hl => match us, hl with | [_], _ => rfl
def c_scaled : Ck := { N := ["machine", "load", "by", "row", "worth"], sc := defScope (top 40), fnc := fun _ => true, fs := ["need_load", "need_fraction", "times"], bs := ["tuple"], gs := [] }
theorem k_scaled : defB bsL gsL giL (top 40) ["machine", "load", "by"] c_scaled [] i_scaled = true := by decide +kernel
theorem b_scaled : BindSt "scaled" (top 40) ["machine", "load", "by"] := fun _ _ _ _ _ _ us hl => match us, hl with | [_, _, _], _ => rfl
def c_empty : Ck := { N := ["machine", "count"], sc := defScope (top 37), fnc := fun _ => true, fs := ["need_machine"], bs := ["tuple"], gs := [] }
theorem k_empty : defB bsL gsL giL (top 37) ["machine"] c_empty [] i_empty = true := by decide +kernel
theorem b_empty : BindSt "empty" (top 37) ["machine"] := fun _ _ _ _ _ _ us hl => match us, hl with | [_], _ => rfl
def c_spots : Ck := { N := ["machine", "wheel", "count", "place"], sc := defScope (top 28), fnc := fun _ => true, fs := ["need_machine"], bs := ["enumerate", "range", "tuple"], gs := [] }
theorem k_spots : defB bsL gsL giL (top 28) ["machine"] c_spots [] i_spots = true := by decide +kernel
theorem b_spots : BindSt "spots" (top 28) ["machine"] := fun _ _ _ _ _ _ us hl => match us, hl with | [_], _ => rfl
def c_need_spot_on : Ck := { N := ["counts", "thing"], sc := defScope (top 30), fnc := fun _ => true, fs := ["is_spot_of"], bs := [], gs := [] }
theorem k_need_spot_on : defB bsL gsL giL (top 30) ["counts", "thing"] c_need_spot_on [] i_need_spot_on = true := by decide +kernel
theorem b_need_spot_on : BindSt "need_spot_on" (top 30) ["counts", "thing"] := fun _ _ _ _ _ _ us hl => match us, hl with | [_, _], _ => rfl
def c_need_spot : Ck := { N := ["machine", "thing"], sc := defScope (top 29), fnc := fun _ => true, fs := ["need_machine", "need_spot_on"], bs := [], gs := [] }
theorem k_need_spot : defB bsL gsL giL (top 29) ["machine", "thing"] c_need_spot [] i_need_spot = true := by decide +kernel
theorem b_need_spot : BindSt "need_spot" (top 29) ["machine", "thing"] := fun _ _ _ _ _ _ us hl => match us, hl with | [_, _], _ => rfl
def c_one_at : Ck := { N := ["machine", "spot", "rows", "count"], sc := defScope (top 38), fnc := fun _ => true, fs := ["need_spot", "_load_of"], bs := [], gs := [] }
theorem k_one_at : defB bsL gsL giL (top 38) ["machine", "spot"] c_one_at [] i_one_at = true := by decide +kernel
theorem b_one_at : BindSt "one_at" (top 38) ["machine", "spot"] := fun _ _ _ _ _ _ us hl => match us, hl with | [_, _], _ => rfl
def c__law_adds_right : Ck := { N := ["machine", "load", "other", "by", "beats", "both", "row", "one", "far", "due", "found", "wheel", "at", "alone", "x", "y"], sc := defScope (top 65), fnc := fun _ => true, fs := ["added", "scaled", "plus", "times", "behind", "empty", "spots", "one_at"], bs := ["list", "zip"], gs := [] }
theorem k__law_adds_right : defB bsL gsL giL (top 65) ["machine", "load", "other", "by", "beats"] c__law_adds_right [] i__law_adds_right = true := by decide +kernel
theorem b__law_adds_right : BindSt "_law_adds_right" (top 65) ["machine", "load", "other", "by", "beats"] := fun _ _ _ _ _ _ us hl => match us, hl with | [_, _, _, _, _], _ => rfl
def c_less : Ck := { N := ["one", "other"], sc := defScope (top 15), fnc := fun _ => true, fs := ["lowest"], bs := [], gs := [] }
theorem k_less : defB bsL gsL giL (top 15) ["one", "other"] c_less [] i_less = true := by decide +kernel
theorem b_less : BindSt "less" (top 15) ["one", "other"] := fun _ _ _ _ _ _ us hl => match us, hl with | [_, _], _ => rfl
def c_law : Ck := { N := ["script", "k", "cell", "state", "machine", "load", "other", "by"], sc := defScope (top 66), fnc := fun _ => true, fs := ["_law_draw", "_law_machine", "_law_load", "fraction", "_law_digit", "need_load", "is_load", "_law_goes_right", "_law_adds_right", "plus", "half", "less"], bs := ["enumerate", "sum"], gs := [] }
theorem k_law : defB bsL gsL giL (top 66) ["script"] c_law [] i_law_v2 = true := by decide +kernel
theorem b_law : BindSt "law" (top 66) ["script"] := fun _ _ _ _ _ _ us hl => match us, hl with | [_], _ => rfl
structure Facts (K : PySem.W.Frag) : Prop where
  D_law_draw : DefSt K "_law_draw" (top 52)
  D_law_mixed : DefSt K "_law_mixed" (top 51)
  D_law_digit : DefSt K "_law_digit" (top 53)
  D_law_counts : DefSt K "_law_counts" (top 54)
  D_law_touches : DefSt K "_law_touches" (top 55)
  D_law_machine : DefSt K "_law_machine" (top 56)
  D_law_lowest : DefSt K "_law_lowest" (top 57)
  D_law_load : DefSt K "_law_load" (top 59)
  Dis_whole : DefSt K "is_whole" (top 8)
  Dlowest : DefSt K "lowest" (top 12)
  Dfraction : DefStV K "fraction" (top 13) 1
  Dis_tuple_of : DefSt K "is_tuple_of" (top 9)
  Dare_counts : DefSt K "are_counts" (top 23)
  Dis_spot_of : DefSt K "is_spot_of" (top 24)
  Dis_pair_of : DefSt K "is_pair_of" (top 25)
  Dneed_touches : DefSt K "need_touches" (top 26)
  Dneed_machine : DefSt K "need_machine" (top 27)
  Dis_fraction : DefSt K "is_fraction" (top 10)
  Dneed_load_on : DefSt K "need_load_on" (top 34)
  Dneed_load : DefSt K "need_load" (top 33)
  Dis_load : DefSt K "is_load" (top 35)
  Dtotal : DefSt K "total" (top 18)
  Dtimes : DefSt K "times" (top 16)
  Dsquares : DefSt K "squares" (top 42)
  D_law_plus : DefSt K "_law_plus" (top 58)
  D_law_squares : DefSt K "_law_squares" (top 62)
  D_law_read : DefSt K "_law_read" (top 60)
  D_law_met : DefSt K "_law_met" (top 63)
  D_law_beat : DefSt K "_law_beat" (top 61)
  Dhalf : DefSt K "half" (top 17)
  Dplus : DefSt K "plus" (top 14)
  D_read : DefSt K "_read" (top 49)
  D_load_of : DefSt K "_load_of" (top 48)
  Dnext_load : DefSt K "next_load" (top 47)
  Dbeat : DefSt K "beat" (top 44)
  Dread : DefSt K "read" (top 43)
  Dheld : DefSt K "held" (top 41)
  Dneed_beats : DefSt K "need_beats" (top 36)
  Dreadings : DefSt K "readings" (top 46)
  Dbehind : DefSt K "behind" (top 45)
  D_law_goes_right : DefSt K "_law_goes_right" (top 64)
  Dadded : DefSt K "added" (top 39)
  Dneed_fraction : DefSt K "need_fraction" (top 11)
  Dscaled : DefSt K "scaled" (top 40)
  Dempty : DefSt K "empty" (top 37)
  Dspots : DefSt K "spots" (top 28)
  Dneed_spot_on : DefSt K "need_spot_on" (top 30)
  Dneed_spot : DefSt K "need_spot" (top 29)
  Done_at : DefSt K "one_at" (top 38)
  D_law_adds_right : DefSt K "_law_adds_right" (top 65)
  Dless : DefSt K "less" (top 15)
  Dlaw : DefSt K "law" (top 66)
  Nabs : PySem.W.nsIn K mainGlobals "abs" = some none
  Nenumerate : PySem.W.nsIn K mainGlobals "enumerate" = some none
  Nint : PySem.W.nsIn K mainGlobals "int" = some none
  Nlen : PySem.W.nsIn K mainGlobals "len" = some none
  Nlist : PySem.W.nsIn K mainGlobals "list" = some none
  Nmax : PySem.W.nsIn K mainGlobals "max" = some none
  Nmin : PySem.W.nsIn K mainGlobals "min" = some none
  Nrange : PySem.W.nsIn K mainGlobals "range" = some none
  Nsorted : PySem.W.nsIn K mainGlobals "sorted" = some none
  Nsum : PySem.W.nsIn K mainGlobals "sum" = some none
  Ntuple : PySem.W.nsIn K mainGlobals "tuple" = some none
  Ntype : PySem.W.nsIn K mainGlobals "type" = some none
  Nzip : PySem.W.nsIn K mainGlobals "zip" = some none
  Ngcd : PySem.W.nsIn K mainGlobals "gcd" = some (some (.builtin "math.gcd"))
  Nlcm : PySem.W.nsIn K mainGlobals "lcm" = some (some (.builtin "math.lcm"))
  IMOST_BEATS : IntSt K "MOST_BEATS" 300
  IMOST_CELLS : IntSt K "MOST_CELLS" 30
  IMOST_TOUCHES : IntSt K "MOST_TOUCHES" 8
  IMOST_WHEELS : IntSt K "MOST_WHEELS" 16
section
variable {P : Program} {w : World} {K : PySem.W.Frag} {mg : Str → Option Value} {base h : Heap}
theorem Facts.names (D : Facts K) (X : K.In h) (G : h.Ns mainGlobals mg) : LawN mg bsL gsL giL := by
  refine ⟨fun x hx => ?_, fun x hx => ?_, fun p hp => ?_⟩
  · simp only [bsL, List.mem_cons, List.not_mem_nil, or_false] at hx
    rcases hx with rfl | rfl | rfl | rfl | rfl | rfl | rfl | rfl | rfl | rfl | rfl | rfl | rfl
    · exact PySem.W.mg_none_of X G D.Nabs
    · exact PySem.W.mg_none_of X G D.Nenumerate
    · exact PySem.W.mg_none_of X G D.Nint
    · exact PySem.W.mg_none_of X G D.Nlen
    · exact PySem.W.mg_none_of X G D.Nlist
    · exact PySem.W.mg_none_of X G D.Nmax
    · exact PySem.W.mg_none_of X G D.Nmin
    · exact PySem.W.mg_none_of X G D.Nrange
    · exact PySem.W.mg_none_of X G D.Nsorted
    · exact PySem.W.mg_none_of X G D.Nsum
    · exact PySem.W.mg_none_of X G D.Ntuple
    · exact PySem.W.mg_none_of X G D.Ntype
    · exact PySem.W.mg_none_of X G D.Nzip
  · simp only [gsL, List.mem_cons, List.not_mem_nil, or_false] at hx
    rcases hx with rfl | rfl
    · exact ⟨.inl rfl, PySem.W.mg_of X G D.Ngcd⟩
    · exact ⟨.inr rfl, PySem.W.mg_of X G D.Nlcm⟩
  · simp only [giL, List.mem_cons, List.not_mem_nil, or_false] at hp
    rcases hp with rfl | rfl | rfl | rfl
    · exact ⟨_, PySem.W.mg_of X G D.IMOST_BEATS.ex.choose_spec⟩
    · exact ⟨_, PySem.W.mg_of X G D.IMOST_CELLS.ex.choose_spec⟩
    · exact ⟨_, PySem.W.mg_of X G D.IMOST_TOUCHES.ex.choose_spec⟩
    · exact ⟨_, PySem.W.mg_of X G D.IMOST_WHEELS.ex.choose_spec⟩
theorem Facts.tab (D : Facts K) (X : K.In h) (G : h.Ns mainGlobals mg) (L : LawN mg bsL gsL giL) : TabOk P w K mg base 8 c_law.fs [.kk F__law_draw, .ss F__law_machine, .ss F__law_load, .dd F_fraction, .ss F__law_digit, .dd F_need_load, .dd F_is_load, .dd F__law_goes_right, .dd F__law_adds_right, .dd F_plus, .dd F_half, .dd F_less] := by
  have h__law_draw : FkR P w K mg base "_law_draw" 1 (.kk F__law_draw) := mkK (n := 0) X G L D.D_law_draw b__law_draw k__law_draw rfl rfl .nil
  have h__law_mixed : FkR P w K mg base "_law_mixed" 1 (.dd F__law_mixed) := mkD (n := 0) X G L D.D_law_mixed b__law_mixed k__law_mixed rfl rfl .nil
  have h__law_digit : FkR P w K mg base "_law_digit" 2 (.ss F__law_digit) := mkS (n := 1) X G L D.D_law_digit b__law_digit k__law_digit rfl rfl (.cons h__law_mixed (by decide) .nil)
  have h__law_counts : FkR P w K mg base "_law_counts" 3 (.ss F__law_counts) := mkS (n := 2) X G L D.D_law_counts b__law_counts k__law_counts rfl rfl (.cons h__law_digit (by decide) .nil)
  have h__law_touches : FkR P w K mg base "_law_touches" 3 (.ss F__law_touches) := mkS (n := 2) X G L D.D_law_touches b__law_touches k__law_touches rfl rfl (.cons h__law_digit (by decide) .nil)
  have h__law_machine : FkR P w K mg base "_law_machine" 4 (.ss F__law_machine) := mkS (n := 3) X G L D.D_law_machine b__law_machine k__law_machine rfl rfl (.cons h__law_counts (by decide) (.cons h__law_touches (by decide) .nil))
  have h__law_lowest : FkR P w K mg base "_law_lowest" 1 (.dd F__law_lowest) := mkD (n := 0) X G L D.D_law_lowest b__law_lowest k__law_lowest rfl rfl .nil
  have h__law_load : FkR P w K mg base "_law_load" 3 (.ss F__law_load) := mkS (n := 2) X G L D.D_law_load b__law_load k__law_load rfl rfl (.cons h__law_digit (by decide) (.cons h__law_lowest (by decide) .nil))
  have h_is_whole : FkR P w K mg base "is_whole" 1 (.dd F_is_whole) := mkD (n := 0) X G L D.Dis_whole b_is_whole k_is_whole rfl rfl .nil
  have h_lowest : FkR P w K mg base "lowest" 1 (.dd F_lowest) := mkD (n := 0) X G L D.Dlowest b_lowest k_lowest rfl rfl .nil
  have h_fraction : FkR P w K mg base "fraction" 2 (.dd F_fraction) := mkDV (n := 1) X G L D.Dfraction (by decide) b_fraction k_fraction rfl rfl (.cons h_is_whole (by decide) (.cons h_lowest (by decide) .nil))
  have h_is_tuple_of : FkR P w K mg base "is_tuple_of" 1 (.dd F_is_tuple_of) := mkD (n := 0) X G L D.Dis_tuple_of b_is_tuple_of k_is_tuple_of rfl rfl .nil
  have h_are_counts : FkR P w K mg base "are_counts" 2 (.dd F_are_counts) := mkD (n := 1) X G L D.Dare_counts b_are_counts k_are_counts rfl rfl (.cons h_is_whole (by decide) .nil)
  have h_is_spot_of : FkR P w K mg base "is_spot_of" 2 (.dd F_is_spot_of) := mkD (n := 1) X G L D.Dis_spot_of b_is_spot_of k_is_spot_of rfl rfl (.cons h_is_tuple_of (by decide) (.cons h_is_whole (by decide) .nil))
  have h_is_pair_of : FkR P w K mg base "is_pair_of" 3 (.dd F_is_pair_of) := mkD (n := 2) X G L D.Dis_pair_of b_is_pair_of k_is_pair_of rfl rfl (.cons h_is_spot_of (by decide) (.cons h_is_tuple_of (by decide) .nil))
  have h_need_touches : FkR P w K mg base "need_touches" 4 (.dd F_need_touches) := mkD (n := 3) X G L D.Dneed_touches b_need_touches k_need_touches rfl rfl (.cons h_is_pair_of (by decide) .nil)
  have h_need_machine : FkR P w K mg base "need_machine" 5 (.dd F_need_machine) := mkD (n := 4) X G L D.Dneed_machine b_need_machine k_need_machine rfl rfl (.cons h_is_tuple_of (by decide) (.cons h_are_counts (by decide) (.cons h_need_touches (by decide) .nil)))
  have h_is_fraction : FkR P w K mg base "is_fraction" 2 (.dd F_is_fraction) := mkD (n := 1) X G L D.Dis_fraction b_is_fraction k_is_fraction rfl rfl (.cons h_is_tuple_of (by decide) (.cons h_is_whole (by decide) .nil))
  have h_need_load_on : FkR P w K mg base "need_load_on" 3 (.dd F_need_load_on) := mkD (n := 2) X G L D.Dneed_load_on b_need_load_on k_need_load_on rfl rfl (.cons h_is_tuple_of (by decide) (.cons h_is_fraction (by decide) .nil))
  have h_need_load : FkR P w K mg base "need_load" 6 (.dd F_need_load) := mkD (n := 5) X G L D.Dneed_load b_need_load k_need_load rfl rfl (.cons h_need_machine (by decide) (.cons h_need_load_on (by decide) .nil))
  have h_is_load : FkR P w K mg base "is_load" 7 (.dd F_is_load) := mkD (n := 6) X G L D.Dis_load b_is_load k_is_load rfl rfl (.cons h_need_load (by decide) .nil)
  have h_total : FkR P w K mg base "total" 2 (.dd F_total) := mkD (n := 1) X G L D.Dtotal b_total k_total rfl rfl (.cons h_lowest (by decide) .nil)
  have h_times : FkR P w K mg base "times" 2 (.dd F_times) := mkD (n := 1) X G L D.Dtimes b_times k_times rfl rfl (.cons h_lowest (by decide) .nil)
  have h_squares : FkR P w K mg base "squares" 7 (.dd F_squares) := mkD (n := 6) X G L D.Dsquares b_squares k_squares rfl rfl (.cons h_need_load (by decide) (.cons h_total (by decide) (.cons h_times (by decide) .nil)))
  have h__law_plus : FkR P w K mg base "_law_plus" 2 (.dd F__law_plus) := mkD (n := 1) X G L D.D_law_plus b__law_plus k__law_plus rfl rfl (.cons h__law_lowest (by decide) .nil)
  have h__law_squares : FkR P w K mg base "_law_squares" 3 (.dd F__law_squares) := mkD (n := 2) X G L D.D_law_squares b__law_squares k__law_squares rfl rfl (.cons h__law_plus (by decide) (.cons h__law_lowest (by decide) .nil))
  have h__law_read : FkR P w K mg base "_law_read" 3 (.dd F__law_read) := mkD (n := 2) X G L D.D_law_read b__law_read k__law_read rfl rfl (.cons h__law_plus (by decide) (.cons h__law_lowest (by decide) .nil))
  have h__law_met : FkR P w K mg base "_law_met" 3 (.dd F__law_met) := mkD (n := 2) X G L D.D_law_met b__law_met k__law_met rfl rfl (.cons h__law_plus (by decide) (.cons h__law_lowest (by decide) .nil))
  have h__law_beat : FkR P w K mg base "_law_beat" 4 (.dd F__law_beat) := mkD (n := 3) X G L D.D_law_beat b__law_beat k__law_beat rfl rfl (.cons h__law_read (by decide) .nil)
  have h_half : FkR P w K mg base "half" 2 (.dd F_half) := mkD (n := 1) X G L D.Dhalf b_half k_half rfl rfl (.cons h_lowest (by decide) .nil)
  have h_plus : FkR P w K mg base "plus" 2 (.dd F_plus) := mkD (n := 1) X G L D.Dplus b_plus k_plus rfl rfl (.cons h_lowest (by decide) .nil)
  have h__read : FkR P w K mg base "_read" 3 (.dd F__read) := mkD (n := 2) X G L D.D_read b__read k__read rfl rfl (.cons h_half (by decide) (.cons h_plus (by decide) .nil))
  have h__load_of : FkR P w K mg base "_load_of" 1 (.dd F__load_of) := mkD (n := 0) X G L D.D_load_of b__load_of k__load_of rfl rfl .nil
  have h_next_load : FkR P w K mg base "next_load" 4 (.dd F_next_load) := mkD (n := 3) X G L D.Dnext_load b_next_load k_next_load rfl rfl (.cons h__read (by decide) (.cons h__load_of (by decide) .nil))
  have h_beat : FkR P w K mg base "beat" 7 (.dd F_beat) := mkD (n := 6) X G L D.Dbeat b_beat k_beat rfl rfl (.cons h_need_load (by decide) (.cons h_next_load (by decide) .nil))
  have h_read : FkR P w K mg base "read" 7 (.dd F_read) := mkD (n := 6) X G L D.Dread b_read k_read rfl rfl (.cons h_need_load (by decide) (.cons h__read (by decide) .nil))
  have h_held : FkR P w K mg base "held" 7 (.dd F_held) := mkD (n := 6) X G L D.Dheld b_held k_held rfl rfl (.cons h_need_load (by decide) (.cons h_total (by decide) .nil))
  have h_need_beats : FkR P w K mg base "need_beats" 2 (.dd F_need_beats) := mkD (n := 1) X G L D.Dneed_beats b_need_beats k_need_beats rfl rfl (.cons h_is_whole (by decide) .nil)
  have h_readings : FkR P w K mg base "readings" 7 (.dd F_readings) := mkD (n := 6) X G L D.Dreadings b_readings k_readings rfl rfl (.cons h_need_load (by decide) (.cons h_need_beats (by decide) (.cons h__read (by decide) (.cons h_next_load (by decide) .nil))))
  have h_behind : FkR P w K mg base "behind" 7 (.dd F_behind) := mkD (n := 6) X G L D.Dbehind b_behind k_behind rfl rfl (.cons h_need_load (by decide) (.cons h_need_beats (by decide) (.cons h_next_load (by decide) .nil)))
  have h__law_goes_right : FkR P w K mg base "_law_goes_right" 8 (.dd F__law_goes_right) := mkD (n := 7) X G L D.D_law_goes_right b__law_goes_right k__law_goes_right rfl rfl (.cons h_squares (by decide) (.cons h__law_squares (by decide) (.cons h__law_read (by decide) (.cons h__law_met (by decide) (.cons h__law_beat (by decide) (.cons h_beat (by decide) (.cons h_read (by decide) (.cons h_held (by decide) (.cons h_plus (by decide) (.cons h_readings (by decide) (.cons h_behind (by decide) .nil)))))))))))
  have h_added : FkR P w K mg base "added" 7 (.dd F_added) := mkD (n := 6) X G L D.Dadded b_added k_added rfl rfl (.cons h_need_load (by decide) (.cons h_plus (by decide) .nil))
  have h_need_fraction : FkR P w K mg base "need_fraction" 3 (.dd F_need_fraction) := mkD (n := 2) X G L D.Dneed_fraction b_need_fraction k_need_fraction rfl rfl (.cons h_is_fraction (by decide) .nil)
  have h_scaled : FkR P w K mg base "scaled" 7 (.dd F_scaled) := mkD (n := 6) X G L D.Dscaled b_scaled k_scaled rfl rfl (.cons h_need_load (by decide) (.cons h_need_fraction (by decide) (.cons h_times (by decide) .nil)))
  have h_empty : FkR P w K mg base "empty" 6 (.dd F_empty) := mkD (n := 5) X G L D.Dempty b_empty k_empty rfl rfl (.cons h_need_machine (by decide) .nil)
  have h_spots : FkR P w K mg base "spots" 6 (.dd F_spots) := mkD (n := 5) X G L D.Dspots b_spots k_spots rfl rfl (.cons h_need_machine (by decide) .nil)
  have h_need_spot_on : FkR P w K mg base "need_spot_on" 3 (.dd F_need_spot_on) := mkD (n := 2) X G L D.Dneed_spot_on b_need_spot_on k_need_spot_on rfl rfl (.cons h_is_spot_of (by decide) .nil)
  have h_need_spot : FkR P w K mg base "need_spot" 6 (.dd F_need_spot) := mkD (n := 5) X G L D.Dneed_spot b_need_spot k_need_spot rfl rfl (.cons h_need_machine (by decide) (.cons h_need_spot_on (by decide) .nil))
  have h_one_at : FkR P w K mg base "one_at" 7 (.dd F_one_at) := mkD (n := 6) X G L D.Done_at b_one_at k_one_at rfl rfl (.cons h_need_spot (by decide) (.cons h__load_of (by decide) .nil))
  have h__law_adds_right : FkR P w K mg base "_law_adds_right" 8 (.dd F__law_adds_right) := mkD (n := 7) X G L D.D_law_adds_right b__law_adds_right k__law_adds_right rfl rfl (.cons h_added (by decide) (.cons h_scaled (by decide) (.cons h_plus (by decide) (.cons h_times (by decide) (.cons h_behind (by decide) (.cons h_empty (by decide) (.cons h_spots (by decide) (.cons h_one_at (by decide) .nil))))))))
  have h_less : FkR P w K mg base "less" 2 (.dd F_less) := mkD (n := 1) X G L D.Dless b_less k_less rfl rfl (.cons h_lowest (by decide) .nil)
  exact (.cons h__law_draw (by decide) (.cons h__law_machine (by decide) (.cons h__law_load (by decide) (.cons h_fraction (by decide) (.cons h__law_digit (by decide) (.cons h_need_load (by decide) (.cons h_is_load (by decide) (.cons h__law_goes_right (by decide) (.cons h__law_adds_right (by decide) (.cons h_plus (by decide) (.cons h_half (by decide) (.cons h_less (by decide) .nil))))))))))))
theorem all_mk {fa : Addr} (D : Facts K) (X : K.In h) (G : h.Ns mainGlobals mg) (hfa : mg "law" = some (.ref fa)) (law : ∀ ns : List Int, ns.length ≤ 63 → F_law_v2 [.list (ns.map .int)] = .ok (.bool true)) :
    ∃ fd : FuncData, (∀ (s : Shared) (v : Value), BindsTo s fd ⟨[v], []⟩ [("script", v)]) ∧ ∀ base : Heap, K.In base → base.Ns mainGlobals mg → FnAt callerA P w K mg base fa fd ["script"] (spD K gTrue) :=
  law_mk X G (D.names X G) D.Dlaw b_law k_law rfl rfl (fun base => D.tab X G (D.names X G)) hfa ⟨rfl, by decide, by decide⟩ law
end
end Ewl
-- DN1
set_option Elab.async false
set_option linter.all false
set_option maxRecDepth 100000
set_option maxHeartbeats 4000000
/-! The trees, step by step. By an AI agent. -/
namespace Ewl
open PySem L2
noncomputable section
theorem rf {α : Sort _} {a b : α} (h : a = b) : a = b := h
@[simp high] theorem gS0 {α : Type} {a0 : α} {l : List α} : (a0 :: l)[0]? = some a0 := rf rfl
@[simp high] theorem uS0 {α : Type} {a0 v : α} {l : List α} : (a0 :: l).set 0 v = v :: l := rf rfl
@[simp high] theorem tS0 {a0 v : Sl} {l : List Sl} : setS (a0 :: l) 0 v = .ok (v :: l) := by unfold setS; rw [if_pos (by simp)]; rfl
@[simp high] theorem gS1 {α : Type} {a0 a1 : α} {l : List α} : (a0 :: a1 :: l)[1]? = some a1 := rf rfl
@[simp high] theorem uS1 {α : Type} {a0 a1 v : α} {l : List α} : (a0 :: a1 :: l).set 1 v = a0 :: v :: l := rf rfl
@[simp high] theorem tS1 {a0 a1 v : Sl} {l : List Sl} : setS (a0 :: a1 :: l) 1 v = .ok (a0 :: v :: l) := by unfold setS; rw [if_pos (by simp)]; rfl
@[simp high] theorem gS2 {α : Type} {a0 a1 a2 : α} {l : List α} : (a0 :: a1 :: a2 :: l)[2]? = some a2 := rf rfl
@[simp high] theorem uS2 {α : Type} {a0 a1 a2 v : α} {l : List α} : (a0 :: a1 :: a2 :: l).set 2 v = a0 :: a1 :: v :: l := rf rfl
@[simp high] theorem tS2 {a0 a1 a2 v : Sl} {l : List Sl} : setS (a0 :: a1 :: a2 :: l) 2 v = .ok (a0 :: a1 :: v :: l) := by unfold setS; rw [if_pos (by simp)]; rfl
@[simp high] theorem gS3 {α : Type} {a0 a1 a2 a3 : α} {l : List α} : (a0 :: a1 :: a2 :: a3 :: l)[3]? = some a3 := rf rfl
@[simp high] theorem uS3 {α : Type} {a0 a1 a2 a3 v : α} {l : List α} : (a0 :: a1 :: a2 :: a3 :: l).set 3 v = a0 :: a1 :: a2 :: v :: l := rf rfl
@[simp high] theorem tS3 {a0 a1 a2 a3 v : Sl} {l : List Sl} : setS (a0 :: a1 :: a2 :: a3 :: l) 3 v = .ok (a0 :: a1 :: a2 :: v :: l) := by unfold setS; rw [if_pos (by simp)]; rfl
@[simp high] theorem gS4 {α : Type} {a0 a1 a2 a3 a4 : α} {l : List α} : (a0 :: a1 :: a2 :: a3 :: a4 :: l)[4]? = some a4 := rf rfl
@[simp high] theorem uS4 {α : Type} {a0 a1 a2 a3 a4 v : α} {l : List α} : (a0 :: a1 :: a2 :: a3 :: a4 :: l).set 4 v = a0 :: a1 :: a2 :: a3 :: v :: l := rf rfl
@[simp high] theorem tS4 {a0 a1 a2 a3 a4 v : Sl} {l : List Sl} : setS (a0 :: a1 :: a2 :: a3 :: a4 :: l) 4 v = .ok (a0 :: a1 :: a2 :: a3 :: v :: l) := by unfold setS; rw [if_pos (by simp)]; rfl
@[simp high] theorem gS5 {α : Type} {a0 a1 a2 a3 a4 a5 : α} {l : List α} : (a0 :: a1 :: a2 :: a3 :: a4 :: a5 :: l)[5]? = some a5 := rf rfl
@[simp high] theorem uS5 {α : Type} {a0 a1 a2 a3 a4 a5 v : α} {l : List α} : (a0 :: a1 :: a2 :: a3 :: a4 :: a5 :: l).set 5 v = a0 :: a1 :: a2 :: a3 :: a4 :: v :: l := rf rfl
@[simp high] theorem tS5 {a0 a1 a2 a3 a4 a5 v : Sl} {l : List Sl} : setS (a0 :: a1 :: a2 :: a3 :: a4 :: a5 :: l) 5 v = .ok (a0 :: a1 :: a2 :: a3 :: a4 :: v :: l) := by unfold setS; rw [if_pos (by simp)]; rfl
@[simp high] theorem gS6 {α : Type} {a0 a1 a2 a3 a4 a5 a6 : α} {l : List α} : (a0 :: a1 :: a2 :: a3 :: a4 :: a5 :: a6 :: l)[6]? = some a6 := rf rfl
@[simp high] theorem uS6 {α : Type} {a0 a1 a2 a3 a4 a5 a6 v : α} {l : List α} : (a0 :: a1 :: a2 :: a3 :: a4 :: a5 :: a6 :: l).set 6 v = a0 :: a1 :: a2 :: a3 :: a4 :: a5 :: v :: l := rf rfl
@[simp high] theorem tS6 {a0 a1 a2 a3 a4 a5 a6 v : Sl} {l : List Sl} : setS (a0 :: a1 :: a2 :: a3 :: a4 :: a5 :: a6 :: l) 6 v = .ok (a0 :: a1 :: a2 :: a3 :: a4 :: a5 :: v :: l) := by unfold setS; rw [if_pos (by simp)]; rfl
@[simp high] theorem gS7 {α : Type} {a0 a1 a2 a3 a4 a5 a6 a7 : α} {l : List α} : (a0 :: a1 :: a2 :: a3 :: a4 :: a5 :: a6 :: a7 :: l)[7]? = some a7 := rf rfl
@[simp high] theorem uS7 {α : Type} {a0 a1 a2 a3 a4 a5 a6 a7 v : α} {l : List α} : (a0 :: a1 :: a2 :: a3 :: a4 :: a5 :: a6 :: a7 :: l).set 7 v = a0 :: a1 :: a2 :: a3 :: a4 :: a5 :: a6 :: v :: l := rf rfl
@[simp high] theorem tS7 {a0 a1 a2 a3 a4 a5 a6 a7 v : Sl} {l : List Sl} : setS (a0 :: a1 :: a2 :: a3 :: a4 :: a5 :: a6 :: a7 :: l) 7 v = .ok (a0 :: a1 :: a2 :: a3 :: a4 :: a5 :: a6 :: v :: l) := by unfold setS; rw [if_pos (by simp)]; rfl
@[simp high] theorem gS8 {α : Type} {a0 a1 a2 a3 a4 a5 a6 a7 a8 : α} {l : List α} : (a0 :: a1 :: a2 :: a3 :: a4 :: a5 :: a6 :: a7 :: a8 :: l)[8]? = some a8 := rf rfl
@[simp high] theorem uS8 {α : Type} {a0 a1 a2 a3 a4 a5 a6 a7 a8 v : α} {l : List α} : (a0 :: a1 :: a2 :: a3 :: a4 :: a5 :: a6 :: a7 :: a8 :: l).set 8 v = a0 :: a1 :: a2 :: a3 :: a4 :: a5 :: a6 :: a7 :: v :: l := rf rfl
@[simp high] theorem tS8 {a0 a1 a2 a3 a4 a5 a6 a7 a8 v : Sl} {l : List Sl} : setS (a0 :: a1 :: a2 :: a3 :: a4 :: a5 :: a6 :: a7 :: a8 :: l) 8 v = .ok (a0 :: a1 :: a2 :: a3 :: a4 :: a5 :: a6 :: a7 :: v :: l) := by unfold setS; rw [if_pos (by simp)]; rfl
@[simp high] theorem gS9 {α : Type} {a0 a1 a2 a3 a4 a5 a6 a7 a8 a9 : α} {l : List α} : (a0 :: a1 :: a2 :: a3 :: a4 :: a5 :: a6 :: a7 :: a8 :: a9 :: l)[9]? = some a9 := rf rfl
@[simp high] theorem uS9 {α : Type} {a0 a1 a2 a3 a4 a5 a6 a7 a8 a9 v : α} {l : List α} : (a0 :: a1 :: a2 :: a3 :: a4 :: a5 :: a6 :: a7 :: a8 :: a9 :: l).set 9 v = a0 :: a1 :: a2 :: a3 :: a4 :: a5 :: a6 :: a7 :: a8 :: v :: l := rf rfl
@[simp high] theorem tS9 {a0 a1 a2 a3 a4 a5 a6 a7 a8 a9 v : Sl} {l : List Sl} : setS (a0 :: a1 :: a2 :: a3 :: a4 :: a5 :: a6 :: a7 :: a8 :: a9 :: l) 9 v = .ok (a0 :: a1 :: a2 :: a3 :: a4 :: a5 :: a6 :: a7 :: a8 :: v :: l) := by unfold setS; rw [if_pos (by simp)]; rfl
@[simp high] theorem gS10 {α : Type} {a0 a1 a2 a3 a4 a5 a6 a7 a8 a9 a10 : α} {l : List α} : (a0 :: a1 :: a2 :: a3 :: a4 :: a5 :: a6 :: a7 :: a8 :: a9 :: a10 :: l)[10]? = some a10 := rf rfl
@[simp high] theorem uS10 {α : Type} {a0 a1 a2 a3 a4 a5 a6 a7 a8 a9 a10 v : α} {l : List α} : (a0 :: a1 :: a2 :: a3 :: a4 :: a5 :: a6 :: a7 :: a8 :: a9 :: a10 :: l).set 10 v = a0 :: a1 :: a2 :: a3 :: a4 :: a5 :: a6 :: a7 :: a8 :: a9 :: v :: l := rf rfl
@[simp high] theorem tS10 {a0 a1 a2 a3 a4 a5 a6 a7 a8 a9 a10 v : Sl} {l : List Sl} : setS (a0 :: a1 :: a2 :: a3 :: a4 :: a5 :: a6 :: a7 :: a8 :: a9 :: a10 :: l) 10 v = .ok (a0 :: a1 :: a2 :: a3 :: a4 :: a5 :: a6 :: a7 :: a8 :: a9 :: v :: l) := by unfold setS; rw [if_pos (by simp)]; rfl
@[simp high] theorem gS11 {α : Type} {a0 a1 a2 a3 a4 a5 a6 a7 a8 a9 a10 a11 : α} {l : List α} : (a0 :: a1 :: a2 :: a3 :: a4 :: a5 :: a6 :: a7 :: a8 :: a9 :: a10 :: a11 :: l)[11]? = some a11 := rf rfl
@[simp high] theorem uS11 {α : Type} {a0 a1 a2 a3 a4 a5 a6 a7 a8 a9 a10 a11 v : α} {l : List α} : (a0 :: a1 :: a2 :: a3 :: a4 :: a5 :: a6 :: a7 :: a8 :: a9 :: a10 :: a11 :: l).set 11 v = a0 :: a1 :: a2 :: a3 :: a4 :: a5 :: a6 :: a7 :: a8 :: a9 :: a10 :: v :: l := rf rfl
@[simp high] theorem tS11 {a0 a1 a2 a3 a4 a5 a6 a7 a8 a9 a10 a11 v : Sl} {l : List Sl} : setS (a0 :: a1 :: a2 :: a3 :: a4 :: a5 :: a6 :: a7 :: a8 :: a9 :: a10 :: a11 :: l) 11 v = .ok (a0 :: a1 :: a2 :: a3 :: a4 :: a5 :: a6 :: a7 :: a8 :: a9 :: a10 :: v :: l) := by unfold setS; rw [if_pos (by simp)]; rfl
@[simp high] theorem gS12 {α : Type} {a0 a1 a2 a3 a4 a5 a6 a7 a8 a9 a10 a11 a12 : α} {l : List α} : (a0 :: a1 :: a2 :: a3 :: a4 :: a5 :: a6 :: a7 :: a8 :: a9 :: a10 :: a11 :: a12 :: l)[12]? = some a12 := rf rfl
@[simp high] theorem uS12 {α : Type} {a0 a1 a2 a3 a4 a5 a6 a7 a8 a9 a10 a11 a12 v : α} {l : List α} : (a0 :: a1 :: a2 :: a3 :: a4 :: a5 :: a6 :: a7 :: a8 :: a9 :: a10 :: a11 :: a12 :: l).set 12 v = a0 :: a1 :: a2 :: a3 :: a4 :: a5 :: a6 :: a7 :: a8 :: a9 :: a10 :: a11 :: v :: l := rf rfl
@[simp high] theorem tS12 {a0 a1 a2 a3 a4 a5 a6 a7 a8 a9 a10 a11 a12 v : Sl} {l : List Sl} : setS (a0 :: a1 :: a2 :: a3 :: a4 :: a5 :: a6 :: a7 :: a8 :: a9 :: a10 :: a11 :: a12 :: l) 12 v = .ok (a0 :: a1 :: a2 :: a3 :: a4 :: a5 :: a6 :: a7 :: a8 :: a9 :: a10 :: a11 :: v :: l) := by unfold setS; rw [if_pos (by simp)]; rfl
@[simp high] theorem gS13 {α : Type} {a0 a1 a2 a3 a4 a5 a6 a7 a8 a9 a10 a11 a12 a13 : α} {l : List α} : (a0 :: a1 :: a2 :: a3 :: a4 :: a5 :: a6 :: a7 :: a8 :: a9 :: a10 :: a11 :: a12 :: a13 :: l)[13]? = some a13 := rf rfl
@[simp high] theorem uS13 {α : Type} {a0 a1 a2 a3 a4 a5 a6 a7 a8 a9 a10 a11 a12 a13 v : α} {l : List α} : (a0 :: a1 :: a2 :: a3 :: a4 :: a5 :: a6 :: a7 :: a8 :: a9 :: a10 :: a11 :: a12 :: a13 :: l).set 13 v = a0 :: a1 :: a2 :: a3 :: a4 :: a5 :: a6 :: a7 :: a8 :: a9 :: a10 :: a11 :: a12 :: v :: l := rf rfl
@[simp high] theorem tS13 {a0 a1 a2 a3 a4 a5 a6 a7 a8 a9 a10 a11 a12 a13 v : Sl} {l : List Sl} : setS (a0 :: a1 :: a2 :: a3 :: a4 :: a5 :: a6 :: a7 :: a8 :: a9 :: a10 :: a11 :: a12 :: a13 :: l) 13 v = .ok (a0 :: a1 :: a2 :: a3 :: a4 :: a5 :: a6 :: a7 :: a8 :: a9 :: a10 :: a11 :: a12 :: v :: l) := by unfold setS; rw [if_pos (by simp)]; rfl
@[simp high] theorem gS14 {α : Type} {a0 a1 a2 a3 a4 a5 a6 a7 a8 a9 a10 a11 a12 a13 a14 : α} {l : List α} : (a0 :: a1 :: a2 :: a3 :: a4 :: a5 :: a6 :: a7 :: a8 :: a9 :: a10 :: a11 :: a12 :: a13 :: a14 :: l)[14]? = some a14 := rf rfl
@[simp high] theorem uS14 {α : Type} {a0 a1 a2 a3 a4 a5 a6 a7 a8 a9 a10 a11 a12 a13 a14 v : α} {l : List α} : (a0 :: a1 :: a2 :: a3 :: a4 :: a5 :: a6 :: a7 :: a8 :: a9 :: a10 :: a11 :: a12 :: a13 :: a14 :: l).set 14 v = a0 :: a1 :: a2 :: a3 :: a4 :: a5 :: a6 :: a7 :: a8 :: a9 :: a10 :: a11 :: a12 :: a13 :: v :: l := rf rfl
@[simp high] theorem tS14 {a0 a1 a2 a3 a4 a5 a6 a7 a8 a9 a10 a11 a12 a13 a14 v : Sl} {l : List Sl} : setS (a0 :: a1 :: a2 :: a3 :: a4 :: a5 :: a6 :: a7 :: a8 :: a9 :: a10 :: a11 :: a12 :: a13 :: a14 :: l) 14 v = .ok (a0 :: a1 :: a2 :: a3 :: a4 :: a5 :: a6 :: a7 :: a8 :: a9 :: a10 :: a11 :: a12 :: a13 :: v :: l) := by unfold setS; rw [if_pos (by simp)]; rfl
@[simp high] theorem gS15 {α : Type} {a0 a1 a2 a3 a4 a5 a6 a7 a8 a9 a10 a11 a12 a13 a14 a15 : α} {l : List α} : (a0 :: a1 :: a2 :: a3 :: a4 :: a5 :: a6 :: a7 :: a8 :: a9 :: a10 :: a11 :: a12 :: a13 :: a14 :: a15 :: l)[15]? = some a15 := rf rfl
@[simp high] theorem uS15 {α : Type} {a0 a1 a2 a3 a4 a5 a6 a7 a8 a9 a10 a11 a12 a13 a14 a15 v : α} {l : List α} : (a0 :: a1 :: a2 :: a3 :: a4 :: a5 :: a6 :: a7 :: a8 :: a9 :: a10 :: a11 :: a12 :: a13 :: a14 :: a15 :: l).set 15 v = a0 :: a1 :: a2 :: a3 :: a4 :: a5 :: a6 :: a7 :: a8 :: a9 :: a10 :: a11 :: a12 :: a13 :: a14 :: v :: l := rf rfl
@[simp high] theorem tS15 {a0 a1 a2 a3 a4 a5 a6 a7 a8 a9 a10 a11 a12 a13 a14 a15 v : Sl} {l : List Sl} : setS (a0 :: a1 :: a2 :: a3 :: a4 :: a5 :: a6 :: a7 :: a8 :: a9 :: a10 :: a11 :: a12 :: a13 :: a14 :: a15 :: l) 15 v = .ok (a0 :: a1 :: a2 :: a3 :: a4 :: a5 :: a6 :: a7 :: a8 :: a9 :: a10 :: a11 :: a12 :: a13 :: a14 :: v :: l) := by unfold setS; rw [if_pos (by simp)]; rfl
@[simp high] theorem gS16 {α : Type} {a0 a1 a2 a3 a4 a5 a6 a7 a8 a9 a10 a11 a12 a13 a14 a15 a16 : α} {l : List α} : (a0 :: a1 :: a2 :: a3 :: a4 :: a5 :: a6 :: a7 :: a8 :: a9 :: a10 :: a11 :: a12 :: a13 :: a14 :: a15 :: a16 :: l)[16]? = some a16 := rf rfl
@[simp high] theorem uS16 {α : Type} {a0 a1 a2 a3 a4 a5 a6 a7 a8 a9 a10 a11 a12 a13 a14 a15 a16 v : α} {l : List α} : (a0 :: a1 :: a2 :: a3 :: a4 :: a5 :: a6 :: a7 :: a8 :: a9 :: a10 :: a11 :: a12 :: a13 :: a14 :: a15 :: a16 :: l).set 16 v = a0 :: a1 :: a2 :: a3 :: a4 :: a5 :: a6 :: a7 :: a8 :: a9 :: a10 :: a11 :: a12 :: a13 :: a14 :: a15 :: v :: l := rf rfl
@[simp high] theorem tS16 {a0 a1 a2 a3 a4 a5 a6 a7 a8 a9 a10 a11 a12 a13 a14 a15 a16 v : Sl} {l : List Sl} : setS (a0 :: a1 :: a2 :: a3 :: a4 :: a5 :: a6 :: a7 :: a8 :: a9 :: a10 :: a11 :: a12 :: a13 :: a14 :: a15 :: a16 :: l) 16 v = .ok (a0 :: a1 :: a2 :: a3 :: a4 :: a5 :: a6 :: a7 :: a8 :: a9 :: a10 :: a11 :: a12 :: a13 :: a14 :: a15 :: v :: l) := by unfold setS; rw [if_pos (by simp)]; rfl
@[simp high] theorem gS17 {α : Type} {a0 a1 a2 a3 a4 a5 a6 a7 a8 a9 a10 a11 a12 a13 a14 a15 a16 a17 : α} {l : List α} : (a0 :: a1 :: a2 :: a3 :: a4 :: a5 :: a6 :: a7 :: a8 :: a9 :: a10 :: a11 :: a12 :: a13 :: a14 :: a15 :: a16 :: a17 :: l)[17]? = some a17 := rf rfl
@[simp high] theorem uS17 {α : Type} {a0 a1 a2 a3 a4 a5 a6 a7 a8 a9 a10 a11 a12 a13 a14 a15 a16 a17 v : α} {l : List α} : (a0 :: a1 :: a2 :: a3 :: a4 :: a5 :: a6 :: a7 :: a8 :: a9 :: a10 :: a11 :: a12 :: a13 :: a14 :: a15 :: a16 :: a17 :: l).set 17 v = a0 :: a1 :: a2 :: a3 :: a4 :: a5 :: a6 :: a7 :: a8 :: a9 :: a10 :: a11 :: a12 :: a13 :: a14 :: a15 :: a16 :: v :: l := rf rfl
@[simp high] theorem tS17 {a0 a1 a2 a3 a4 a5 a6 a7 a8 a9 a10 a11 a12 a13 a14 a15 a16 a17 v : Sl} {l : List Sl} : setS (a0 :: a1 :: a2 :: a3 :: a4 :: a5 :: a6 :: a7 :: a8 :: a9 :: a10 :: a11 :: a12 :: a13 :: a14 :: a15 :: a16 :: a17 :: l) 17 v = .ok (a0 :: a1 :: a2 :: a3 :: a4 :: a5 :: a6 :: a7 :: a8 :: a9 :: a10 :: a11 :: a12 :: a13 :: a14 :: a15 :: a16 :: v :: l) := by unfold setS; rw [if_pos (by simp)]; rfl
@[simp high] theorem gS18 {α : Type} {a0 a1 a2 a3 a4 a5 a6 a7 a8 a9 a10 a11 a12 a13 a14 a15 a16 a17 a18 : α} {l : List α} : (a0 :: a1 :: a2 :: a3 :: a4 :: a5 :: a6 :: a7 :: a8 :: a9 :: a10 :: a11 :: a12 :: a13 :: a14 :: a15 :: a16 :: a17 :: a18 :: l)[18]? = some a18 := rf rfl
@[simp high] theorem uS18 {α : Type} {a0 a1 a2 a3 a4 a5 a6 a7 a8 a9 a10 a11 a12 a13 a14 a15 a16 a17 a18 v : α} {l : List α} : (a0 :: a1 :: a2 :: a3 :: a4 :: a5 :: a6 :: a7 :: a8 :: a9 :: a10 :: a11 :: a12 :: a13 :: a14 :: a15 :: a16 :: a17 :: a18 :: l).set 18 v = a0 :: a1 :: a2 :: a3 :: a4 :: a5 :: a6 :: a7 :: a8 :: a9 :: a10 :: a11 :: a12 :: a13 :: a14 :: a15 :: a16 :: a17 :: v :: l := rf rfl
@[simp high] theorem tS18 {a0 a1 a2 a3 a4 a5 a6 a7 a8 a9 a10 a11 a12 a13 a14 a15 a16 a17 a18 v : Sl} {l : List Sl} : setS (a0 :: a1 :: a2 :: a3 :: a4 :: a5 :: a6 :: a7 :: a8 :: a9 :: a10 :: a11 :: a12 :: a13 :: a14 :: a15 :: a16 :: a17 :: a18 :: l) 18 v = .ok (a0 :: a1 :: a2 :: a3 :: a4 :: a5 :: a6 :: a7 :: a8 :: a9 :: a10 :: a11 :: a12 :: a13 :: a14 :: a15 :: a16 :: a17 :: v :: l) := by unfold setS; rw [if_pos (by simp)]; rfl
@[simp high] theorem gS19 {α : Type} {a0 a1 a2 a3 a4 a5 a6 a7 a8 a9 a10 a11 a12 a13 a14 a15 a16 a17 a18 a19 : α} {l : List α} : (a0 :: a1 :: a2 :: a3 :: a4 :: a5 :: a6 :: a7 :: a8 :: a9 :: a10 :: a11 :: a12 :: a13 :: a14 :: a15 :: a16 :: a17 :: a18 :: a19 :: l)[19]? = some a19 := rf rfl
@[simp high] theorem uS19 {α : Type} {a0 a1 a2 a3 a4 a5 a6 a7 a8 a9 a10 a11 a12 a13 a14 a15 a16 a17 a18 a19 v : α} {l : List α} : (a0 :: a1 :: a2 :: a3 :: a4 :: a5 :: a6 :: a7 :: a8 :: a9 :: a10 :: a11 :: a12 :: a13 :: a14 :: a15 :: a16 :: a17 :: a18 :: a19 :: l).set 19 v = a0 :: a1 :: a2 :: a3 :: a4 :: a5 :: a6 :: a7 :: a8 :: a9 :: a10 :: a11 :: a12 :: a13 :: a14 :: a15 :: a16 :: a17 :: a18 :: v :: l := rf rfl
@[simp high] theorem tS19 {a0 a1 a2 a3 a4 a5 a6 a7 a8 a9 a10 a11 a12 a13 a14 a15 a16 a17 a18 a19 v : Sl} {l : List Sl} : setS (a0 :: a1 :: a2 :: a3 :: a4 :: a5 :: a6 :: a7 :: a8 :: a9 :: a10 :: a11 :: a12 :: a13 :: a14 :: a15 :: a16 :: a17 :: a18 :: a19 :: l) 19 v = .ok (a0 :: a1 :: a2 :: a3 :: a4 :: a5 :: a6 :: a7 :: a8 :: a9 :: a10 :: a11 :: a12 :: a13 :: a14 :: a15 :: a16 :: a17 :: a18 :: v :: l) := by unfold setS; rw [if_pos (by simp)]; rfl
@[simp high] theorem gS20 {α : Type} {a0 a1 a2 a3 a4 a5 a6 a7 a8 a9 a10 a11 a12 a13 a14 a15 a16 a17 a18 a19 a20 : α} {l : List α} : (a0 :: a1 :: a2 :: a3 :: a4 :: a5 :: a6 :: a7 :: a8 :: a9 :: a10 :: a11 :: a12 :: a13 :: a14 :: a15 :: a16 :: a17 :: a18 :: a19 :: a20 :: l)[20]? = some a20 := rf rfl
@[simp high] theorem uS20 {α : Type} {a0 a1 a2 a3 a4 a5 a6 a7 a8 a9 a10 a11 a12 a13 a14 a15 a16 a17 a18 a19 a20 v : α} {l : List α} : (a0 :: a1 :: a2 :: a3 :: a4 :: a5 :: a6 :: a7 :: a8 :: a9 :: a10 :: a11 :: a12 :: a13 :: a14 :: a15 :: a16 :: a17 :: a18 :: a19 :: a20 :: l).set 20 v = a0 :: a1 :: a2 :: a3 :: a4 :: a5 :: a6 :: a7 :: a8 :: a9 :: a10 :: a11 :: a12 :: a13 :: a14 :: a15 :: a16 :: a17 :: a18 :: a19 :: v :: l := rf rfl
@[simp high] theorem tS20 {a0 a1 a2 a3 a4 a5 a6 a7 a8 a9 a10 a11 a12 a13 a14 a15 a16 a17 a18 a19 a20 v : Sl} {l : List Sl} : setS (a0 :: a1 :: a2 :: a3 :: a4 :: a5 :: a6 :: a7 :: a8 :: a9 :: a10 :: a11 :: a12 :: a13 :: a14 :: a15 :: a16 :: a17 :: a18 :: a19 :: a20 :: l) 20 v = .ok (a0 :: a1 :: a2 :: a3 :: a4 :: a5 :: a6 :: a7 :: a8 :: a9 :: a10 :: a11 :: a12 :: a13 :: a14 :: a15 :: a16 :: a17 :: a18 :: a19 :: v :: l) := by unfold setS; rw [if_pos (by simp)]; rfl
@[simp high] theorem gS21 {α : Type} {a0 a1 a2 a3 a4 a5 a6 a7 a8 a9 a10 a11 a12 a13 a14 a15 a16 a17 a18 a19 a20 a21 : α} {l : List α} : (a0 :: a1 :: a2 :: a3 :: a4 :: a5 :: a6 :: a7 :: a8 :: a9 :: a10 :: a11 :: a12 :: a13 :: a14 :: a15 :: a16 :: a17 :: a18 :: a19 :: a20 :: a21 :: l)[21]? = some a21 := rf rfl
@[simp high] theorem uS21 {α : Type} {a0 a1 a2 a3 a4 a5 a6 a7 a8 a9 a10 a11 a12 a13 a14 a15 a16 a17 a18 a19 a20 a21 v : α} {l : List α} : (a0 :: a1 :: a2 :: a3 :: a4 :: a5 :: a6 :: a7 :: a8 :: a9 :: a10 :: a11 :: a12 :: a13 :: a14 :: a15 :: a16 :: a17 :: a18 :: a19 :: a20 :: a21 :: l).set 21 v = a0 :: a1 :: a2 :: a3 :: a4 :: a5 :: a6 :: a7 :: a8 :: a9 :: a10 :: a11 :: a12 :: a13 :: a14 :: a15 :: a16 :: a17 :: a18 :: a19 :: a20 :: v :: l := rf rfl
@[simp high] theorem tS21 {a0 a1 a2 a3 a4 a5 a6 a7 a8 a9 a10 a11 a12 a13 a14 a15 a16 a17 a18 a19 a20 a21 v : Sl} {l : List Sl} : setS (a0 :: a1 :: a2 :: a3 :: a4 :: a5 :: a6 :: a7 :: a8 :: a9 :: a10 :: a11 :: a12 :: a13 :: a14 :: a15 :: a16 :: a17 :: a18 :: a19 :: a20 :: a21 :: l) 21 v = .ok (a0 :: a1 :: a2 :: a3 :: a4 :: a5 :: a6 :: a7 :: a8 :: a9 :: a10 :: a11 :: a12 :: a13 :: a14 :: a15 :: a16 :: a17 :: a18 :: a19 :: a20 :: v :: l) := by unfold setS; rw [if_pos (by simp)]; rfl
@[simp high] theorem gS22 {α : Type} {a0 a1 a2 a3 a4 a5 a6 a7 a8 a9 a10 a11 a12 a13 a14 a15 a16 a17 a18 a19 a20 a21 a22 : α} {l : List α} : (a0 :: a1 :: a2 :: a3 :: a4 :: a5 :: a6 :: a7 :: a8 :: a9 :: a10 :: a11 :: a12 :: a13 :: a14 :: a15 :: a16 :: a17 :: a18 :: a19 :: a20 :: a21 :: a22 :: l)[22]? = some a22 := rf rfl
@[simp high] theorem uS22 {α : Type} {a0 a1 a2 a3 a4 a5 a6 a7 a8 a9 a10 a11 a12 a13 a14 a15 a16 a17 a18 a19 a20 a21 a22 v : α} {l : List α} : (a0 :: a1 :: a2 :: a3 :: a4 :: a5 :: a6 :: a7 :: a8 :: a9 :: a10 :: a11 :: a12 :: a13 :: a14 :: a15 :: a16 :: a17 :: a18 :: a19 :: a20 :: a21 :: a22 :: l).set 22 v = a0 :: a1 :: a2 :: a3 :: a4 :: a5 :: a6 :: a7 :: a8 :: a9 :: a10 :: a11 :: a12 :: a13 :: a14 :: a15 :: a16 :: a17 :: a18 :: a19 :: a20 :: a21 :: v :: l := rf rfl
@[simp high] theorem tS22 {a0 a1 a2 a3 a4 a5 a6 a7 a8 a9 a10 a11 a12 a13 a14 a15 a16 a17 a18 a19 a20 a21 a22 v : Sl} {l : List Sl} : setS (a0 :: a1 :: a2 :: a3 :: a4 :: a5 :: a6 :: a7 :: a8 :: a9 :: a10 :: a11 :: a12 :: a13 :: a14 :: a15 :: a16 :: a17 :: a18 :: a19 :: a20 :: a21 :: a22 :: l) 22 v = .ok (a0 :: a1 :: a2 :: a3 :: a4 :: a5 :: a6 :: a7 :: a8 :: a9 :: a10 :: a11 :: a12 :: a13 :: a14 :: a15 :: a16 :: a17 :: a18 :: a19 :: a20 :: a21 :: v :: l) := by unfold setS; rw [if_pos (by simp)]; rfl
@[simp high] theorem gS23 {α : Type} {a0 a1 a2 a3 a4 a5 a6 a7 a8 a9 a10 a11 a12 a13 a14 a15 a16 a17 a18 a19 a20 a21 a22 a23 : α} {l : List α} : (a0 :: a1 :: a2 :: a3 :: a4 :: a5 :: a6 :: a7 :: a8 :: a9 :: a10 :: a11 :: a12 :: a13 :: a14 :: a15 :: a16 :: a17 :: a18 :: a19 :: a20 :: a21 :: a22 :: a23 :: l)[23]? = some a23 := rf rfl
@[simp high] theorem uS23 {α : Type} {a0 a1 a2 a3 a4 a5 a6 a7 a8 a9 a10 a11 a12 a13 a14 a15 a16 a17 a18 a19 a20 a21 a22 a23 v : α} {l : List α} : (a0 :: a1 :: a2 :: a3 :: a4 :: a5 :: a6 :: a7 :: a8 :: a9 :: a10 :: a11 :: a12 :: a13 :: a14 :: a15 :: a16 :: a17 :: a18 :: a19 :: a20 :: a21 :: a22 :: a23 :: l).set 23 v = a0 :: a1 :: a2 :: a3 :: a4 :: a5 :: a6 :: a7 :: a8 :: a9 :: a10 :: a11 :: a12 :: a13 :: a14 :: a15 :: a16 :: a17 :: a18 :: a19 :: a20 :: a21 :: a22 :: v :: l := rf rfl
@[simp high] theorem tS23 {a0 a1 a2 a3 a4 a5 a6 a7 a8 a9 a10 a11 a12 a13 a14 a15 a16 a17 a18 a19 a20 a21 a22 a23 v : Sl} {l : List Sl} : setS (a0 :: a1 :: a2 :: a3 :: a4 :: a5 :: a6 :: a7 :: a8 :: a9 :: a10 :: a11 :: a12 :: a13 :: a14 :: a15 :: a16 :: a17 :: a18 :: a19 :: a20 :: a21 :: a22 :: a23 :: l) 23 v = .ok (a0 :: a1 :: a2 :: a3 :: a4 :: a5 :: a6 :: a7 :: a8 :: a9 :: a10 :: a11 :: a12 :: a13 :: a14 :: a15 :: a16 :: a17 :: a18 :: a19 :: a20 :: a21 :: a22 :: v :: l) := by unfold setS; rw [if_pos (by simp)]; rfl
@[simp high] theorem gS24 {α : Type} {a0 a1 a2 a3 a4 a5 a6 a7 a8 a9 a10 a11 a12 a13 a14 a15 a16 a17 a18 a19 a20 a21 a22 a23 a24 : α} {l : List α} : (a0 :: a1 :: a2 :: a3 :: a4 :: a5 :: a6 :: a7 :: a8 :: a9 :: a10 :: a11 :: a12 :: a13 :: a14 :: a15 :: a16 :: a17 :: a18 :: a19 :: a20 :: a21 :: a22 :: a23 :: a24 :: l)[24]? = some a24 := rf rfl
@[simp high] theorem uS24 {α : Type} {a0 a1 a2 a3 a4 a5 a6 a7 a8 a9 a10 a11 a12 a13 a14 a15 a16 a17 a18 a19 a20 a21 a22 a23 a24 v : α} {l : List α} : (a0 :: a1 :: a2 :: a3 :: a4 :: a5 :: a6 :: a7 :: a8 :: a9 :: a10 :: a11 :: a12 :: a13 :: a14 :: a15 :: a16 :: a17 :: a18 :: a19 :: a20 :: a21 :: a22 :: a23 :: a24 :: l).set 24 v = a0 :: a1 :: a2 :: a3 :: a4 :: a5 :: a6 :: a7 :: a8 :: a9 :: a10 :: a11 :: a12 :: a13 :: a14 :: a15 :: a16 :: a17 :: a18 :: a19 :: a20 :: a21 :: a22 :: a23 :: v :: l := rf rfl
@[simp high] theorem tS24 {a0 a1 a2 a3 a4 a5 a6 a7 a8 a9 a10 a11 a12 a13 a14 a15 a16 a17 a18 a19 a20 a21 a22 a23 a24 v : Sl} {l : List Sl} : setS (a0 :: a1 :: a2 :: a3 :: a4 :: a5 :: a6 :: a7 :: a8 :: a9 :: a10 :: a11 :: a12 :: a13 :: a14 :: a15 :: a16 :: a17 :: a18 :: a19 :: a20 :: a21 :: a22 :: a23 :: a24 :: l) 24 v = .ok (a0 :: a1 :: a2 :: a3 :: a4 :: a5 :: a6 :: a7 :: a8 :: a9 :: a10 :: a11 :: a12 :: a13 :: a14 :: a15 :: a16 :: a17 :: a18 :: a19 :: a20 :: a21 :: a22 :: a23 :: v :: l) := by unfold setS; rw [if_pos (by simp)]; rfl
@[simp high] theorem gS25 {α : Type} {a0 a1 a2 a3 a4 a5 a6 a7 a8 a9 a10 a11 a12 a13 a14 a15 a16 a17 a18 a19 a20 a21 a22 a23 a24 a25 : α} {l : List α} : (a0 :: a1 :: a2 :: a3 :: a4 :: a5 :: a6 :: a7 :: a8 :: a9 :: a10 :: a11 :: a12 :: a13 :: a14 :: a15 :: a16 :: a17 :: a18 :: a19 :: a20 :: a21 :: a22 :: a23 :: a24 :: a25 :: l)[25]? = some a25 := rf rfl
@[simp high] theorem uS25 {α : Type} {a0 a1 a2 a3 a4 a5 a6 a7 a8 a9 a10 a11 a12 a13 a14 a15 a16 a17 a18 a19 a20 a21 a22 a23 a24 a25 v : α} {l : List α} : (a0 :: a1 :: a2 :: a3 :: a4 :: a5 :: a6 :: a7 :: a8 :: a9 :: a10 :: a11 :: a12 :: a13 :: a14 :: a15 :: a16 :: a17 :: a18 :: a19 :: a20 :: a21 :: a22 :: a23 :: a24 :: a25 :: l).set 25 v = a0 :: a1 :: a2 :: a3 :: a4 :: a5 :: a6 :: a7 :: a8 :: a9 :: a10 :: a11 :: a12 :: a13 :: a14 :: a15 :: a16 :: a17 :: a18 :: a19 :: a20 :: a21 :: a22 :: a23 :: a24 :: v :: l := rf rfl
@[simp high] theorem tS25 {a0 a1 a2 a3 a4 a5 a6 a7 a8 a9 a10 a11 a12 a13 a14 a15 a16 a17 a18 a19 a20 a21 a22 a23 a24 a25 v : Sl} {l : List Sl} : setS (a0 :: a1 :: a2 :: a3 :: a4 :: a5 :: a6 :: a7 :: a8 :: a9 :: a10 :: a11 :: a12 :: a13 :: a14 :: a15 :: a16 :: a17 :: a18 :: a19 :: a20 :: a21 :: a22 :: a23 :: a24 :: a25 :: l) 25 v = .ok (a0 :: a1 :: a2 :: a3 :: a4 :: a5 :: a6 :: a7 :: a8 :: a9 :: a10 :: a11 :: a12 :: a13 :: a14 :: a15 :: a16 :: a17 :: a18 :: a19 :: a20 :: a21 :: a22 :: a23 :: a24 :: v :: l) := by unfold setS; rw [if_pos (by simp)]; rfl
@[simp high] theorem gS26 {α : Type} {a0 a1 a2 a3 a4 a5 a6 a7 a8 a9 a10 a11 a12 a13 a14 a15 a16 a17 a18 a19 a20 a21 a22 a23 a24 a25 a26 : α} {l : List α} : (a0 :: a1 :: a2 :: a3 :: a4 :: a5 :: a6 :: a7 :: a8 :: a9 :: a10 :: a11 :: a12 :: a13 :: a14 :: a15 :: a16 :: a17 :: a18 :: a19 :: a20 :: a21 :: a22 :: a23 :: a24 :: a25 :: a26 :: l)[26]? = some a26 := rf rfl
@[simp high] theorem uS26 {α : Type} {a0 a1 a2 a3 a4 a5 a6 a7 a8 a9 a10 a11 a12 a13 a14 a15 a16 a17 a18 a19 a20 a21 a22 a23 a24 a25 a26 v : α} {l : List α} : (a0 :: a1 :: a2 :: a3 :: a4 :: a5 :: a6 :: a7 :: a8 :: a9 :: a10 :: a11 :: a12 :: a13 :: a14 :: a15 :: a16 :: a17 :: a18 :: a19 :: a20 :: a21 :: a22 :: a23 :: a24 :: a25 :: a26 :: l).set 26 v = a0 :: a1 :: a2 :: a3 :: a4 :: a5 :: a6 :: a7 :: a8 :: a9 :: a10 :: a11 :: a12 :: a13 :: a14 :: a15 :: a16 :: a17 :: a18 :: a19 :: a20 :: a21 :: a22 :: a23 :: a24 :: a25 :: v :: l := rf rfl
@[simp high] theorem tS26 {a0 a1 a2 a3 a4 a5 a6 a7 a8 a9 a10 a11 a12 a13 a14 a15 a16 a17 a18 a19 a20 a21 a22 a23 a24 a25 a26 v : Sl} {l : List Sl} : setS (a0 :: a1 :: a2 :: a3 :: a4 :: a5 :: a6 :: a7 :: a8 :: a9 :: a10 :: a11 :: a12 :: a13 :: a14 :: a15 :: a16 :: a17 :: a18 :: a19 :: a20 :: a21 :: a22 :: a23 :: a24 :: a25 :: a26 :: l) 26 v = .ok (a0 :: a1 :: a2 :: a3 :: a4 :: a5 :: a6 :: a7 :: a8 :: a9 :: a10 :: a11 :: a12 :: a13 :: a14 :: a15 :: a16 :: a17 :: a18 :: a19 :: a20 :: a21 :: a22 :: a23 :: a24 :: a25 :: v :: l) := by unfold setS; rw [if_pos (by simp)]; rfl
@[simp high] theorem gS27 {α : Type} {a0 a1 a2 a3 a4 a5 a6 a7 a8 a9 a10 a11 a12 a13 a14 a15 a16 a17 a18 a19 a20 a21 a22 a23 a24 a25 a26 a27 : α} {l : List α} : (a0 :: a1 :: a2 :: a3 :: a4 :: a5 :: a6 :: a7 :: a8 :: a9 :: a10 :: a11 :: a12 :: a13 :: a14 :: a15 :: a16 :: a17 :: a18 :: a19 :: a20 :: a21 :: a22 :: a23 :: a24 :: a25 :: a26 :: a27 :: l)[27]? = some a27 := rf rfl
@[simp high] theorem uS27 {α : Type} {a0 a1 a2 a3 a4 a5 a6 a7 a8 a9 a10 a11 a12 a13 a14 a15 a16 a17 a18 a19 a20 a21 a22 a23 a24 a25 a26 a27 v : α} {l : List α} : (a0 :: a1 :: a2 :: a3 :: a4 :: a5 :: a6 :: a7 :: a8 :: a9 :: a10 :: a11 :: a12 :: a13 :: a14 :: a15 :: a16 :: a17 :: a18 :: a19 :: a20 :: a21 :: a22 :: a23 :: a24 :: a25 :: a26 :: a27 :: l).set 27 v = a0 :: a1 :: a2 :: a3 :: a4 :: a5 :: a6 :: a7 :: a8 :: a9 :: a10 :: a11 :: a12 :: a13 :: a14 :: a15 :: a16 :: a17 :: a18 :: a19 :: a20 :: a21 :: a22 :: a23 :: a24 :: a25 :: a26 :: v :: l := rf rfl
@[simp high] theorem tS27 {a0 a1 a2 a3 a4 a5 a6 a7 a8 a9 a10 a11 a12 a13 a14 a15 a16 a17 a18 a19 a20 a21 a22 a23 a24 a25 a26 a27 v : Sl} {l : List Sl} : setS (a0 :: a1 :: a2 :: a3 :: a4 :: a5 :: a6 :: a7 :: a8 :: a9 :: a10 :: a11 :: a12 :: a13 :: a14 :: a15 :: a16 :: a17 :: a18 :: a19 :: a20 :: a21 :: a22 :: a23 :: a24 :: a25 :: a26 :: a27 :: l) 27 v = .ok (a0 :: a1 :: a2 :: a3 :: a4 :: a5 :: a6 :: a7 :: a8 :: a9 :: a10 :: a11 :: a12 :: a13 :: a14 :: a15 :: a16 :: a17 :: a18 :: a19 :: a20 :: a21 :: a22 :: a23 :: a24 :: a25 :: a26 :: v :: l) := by unfold setS; rw [if_pos (by simp)]; rfl
@[simp high] theorem gS28 {α : Type} {a0 a1 a2 a3 a4 a5 a6 a7 a8 a9 a10 a11 a12 a13 a14 a15 a16 a17 a18 a19 a20 a21 a22 a23 a24 a25 a26 a27 a28 : α} {l : List α} : (a0 :: a1 :: a2 :: a3 :: a4 :: a5 :: a6 :: a7 :: a8 :: a9 :: a10 :: a11 :: a12 :: a13 :: a14 :: a15 :: a16 :: a17 :: a18 :: a19 :: a20 :: a21 :: a22 :: a23 :: a24 :: a25 :: a26 :: a27 :: a28 :: l)[28]? = some a28 := rf rfl
@[simp high] theorem uS28 {α : Type} {a0 a1 a2 a3 a4 a5 a6 a7 a8 a9 a10 a11 a12 a13 a14 a15 a16 a17 a18 a19 a20 a21 a22 a23 a24 a25 a26 a27 a28 v : α} {l : List α} : (a0 :: a1 :: a2 :: a3 :: a4 :: a5 :: a6 :: a7 :: a8 :: a9 :: a10 :: a11 :: a12 :: a13 :: a14 :: a15 :: a16 :: a17 :: a18 :: a19 :: a20 :: a21 :: a22 :: a23 :: a24 :: a25 :: a26 :: a27 :: a28 :: l).set 28 v = a0 :: a1 :: a2 :: a3 :: a4 :: a5 :: a6 :: a7 :: a8 :: a9 :: a10 :: a11 :: a12 :: a13 :: a14 :: a15 :: a16 :: a17 :: a18 :: a19 :: a20 :: a21 :: a22 :: a23 :: a24 :: a25 :: a26 :: a27 :: v :: l := rf rfl
@[simp high] theorem tS28 {a0 a1 a2 a3 a4 a5 a6 a7 a8 a9 a10 a11 a12 a13 a14 a15 a16 a17 a18 a19 a20 a21 a22 a23 a24 a25 a26 a27 a28 v : Sl} {l : List Sl} : setS (a0 :: a1 :: a2 :: a3 :: a4 :: a5 :: a6 :: a7 :: a8 :: a9 :: a10 :: a11 :: a12 :: a13 :: a14 :: a15 :: a16 :: a17 :: a18 :: a19 :: a20 :: a21 :: a22 :: a23 :: a24 :: a25 :: a26 :: a27 :: a28 :: l) 28 v = .ok (a0 :: a1 :: a2 :: a3 :: a4 :: a5 :: a6 :: a7 :: a8 :: a9 :: a10 :: a11 :: a12 :: a13 :: a14 :: a15 :: a16 :: a17 :: a18 :: a19 :: a20 :: a21 :: a22 :: a23 :: a24 :: a25 :: a26 :: a27 :: v :: l) := by unfold setS; rw [if_pos (by simp)]; rfl
@[simp high] theorem gS29 {α : Type} {a0 a1 a2 a3 a4 a5 a6 a7 a8 a9 a10 a11 a12 a13 a14 a15 a16 a17 a18 a19 a20 a21 a22 a23 a24 a25 a26 a27 a28 a29 : α} {l : List α} : (a0 :: a1 :: a2 :: a3 :: a4 :: a5 :: a6 :: a7 :: a8 :: a9 :: a10 :: a11 :: a12 :: a13 :: a14 :: a15 :: a16 :: a17 :: a18 :: a19 :: a20 :: a21 :: a22 :: a23 :: a24 :: a25 :: a26 :: a27 :: a28 :: a29 :: l)[29]? = some a29 := rf rfl
@[simp high] theorem uS29 {α : Type} {a0 a1 a2 a3 a4 a5 a6 a7 a8 a9 a10 a11 a12 a13 a14 a15 a16 a17 a18 a19 a20 a21 a22 a23 a24 a25 a26 a27 a28 a29 v : α} {l : List α} : (a0 :: a1 :: a2 :: a3 :: a4 :: a5 :: a6 :: a7 :: a8 :: a9 :: a10 :: a11 :: a12 :: a13 :: a14 :: a15 :: a16 :: a17 :: a18 :: a19 :: a20 :: a21 :: a22 :: a23 :: a24 :: a25 :: a26 :: a27 :: a28 :: a29 :: l).set 29 v = a0 :: a1 :: a2 :: a3 :: a4 :: a5 :: a6 :: a7 :: a8 :: a9 :: a10 :: a11 :: a12 :: a13 :: a14 :: a15 :: a16 :: a17 :: a18 :: a19 :: a20 :: a21 :: a22 :: a23 :: a24 :: a25 :: a26 :: a27 :: a28 :: v :: l := rf rfl
@[simp high] theorem tS29 {a0 a1 a2 a3 a4 a5 a6 a7 a8 a9 a10 a11 a12 a13 a14 a15 a16 a17 a18 a19 a20 a21 a22 a23 a24 a25 a26 a27 a28 a29 v : Sl} {l : List Sl} : setS (a0 :: a1 :: a2 :: a3 :: a4 :: a5 :: a6 :: a7 :: a8 :: a9 :: a10 :: a11 :: a12 :: a13 :: a14 :: a15 :: a16 :: a17 :: a18 :: a19 :: a20 :: a21 :: a22 :: a23 :: a24 :: a25 :: a26 :: a27 :: a28 :: a29 :: l) 29 v = .ok (a0 :: a1 :: a2 :: a3 :: a4 :: a5 :: a6 :: a7 :: a8 :: a9 :: a10 :: a11 :: a12 :: a13 :: a14 :: a15 :: a16 :: a17 :: a18 :: a19 :: a20 :: a21 :: a22 :: a23 :: a24 :: a25 :: a26 :: a27 :: a28 :: v :: l) := by unfold setS; rw [if_pos (by simp)]; rfl
section
variable {α β : Type}
@[simp high] theorem b_ok {a : α} {f : α → Oc β} : (Oc.ok a >>= f) = f a := rf rfl
@[simp high] theorem b_un {f : α → Oc β} : ((Oc.un : Oc α) >>= f) = .un := rf rfl
@[simp high] theorem h_ok {s : Sls} {a : α} : (Oc.ok a).here s = .ok a := rf rfl
@[simp] theorem ofO_s {a : α} : ofO (some a) = .ok a := rf rfl
end
section
variable {tb : List Fk} {gi : List (Str × Int)} {s : Sls}
/-! what a slot gives -/
def rdO (s : Sls) (i : Nat) : Option Sl → Oc (Sls × PyData)
  | some (.d d) => .ok (s, d)
  | some (.l xs) => .ok (s.set i (.d (.list xs)), .list xs)
  | some (.ll xss) => .ok (s.set i (.d (.list (xss.map PyData.list))), .list (xss.map PyData.list))
  | some (.dk _ kvs) => .ok (s.set i (.d (dKd kvs)), dKd kvs)
  | some (.dt kvs) => .ok (s.set i (.d (dTd kvs)), dTd kvs)
  | _ => .un
@[simp] theorem rdS_o {i : Nat} : rdS s i = rdO s i s[i]? := by
  unfold rdS rdO
  split <;> simp_all
@[simp] theorem rdO_d {i : Nat} {d : PyData} : rdO s i (some (.d d)) = .ok (s, d) := rf rfl
@[simp] theorem rdO_l {i : Nat} {xs : List PyData} : rdO s i (some (.l xs)) = .ok (s.set i (.d (.list xs)), .list xs) := rf rfl
@[simp] theorem rdO_ll {i : Nat} {xs : List (List PyData)} : rdO s i (some (.ll xs)) = .ok (s.set i (.d (.list (xs.map PyData.list))), .list (xs.map PyData.list)) := rf rfl
def slL : Option Sl → Oc (List PyData)
  | some (.l xs) => .ok xs
  | _ => .un
@[simp] theorem rdL_o {i : Nat} : rdL s i = slL s[i]? := by unfold rdL slL; split <;> simp_all
@[simp] theorem slL_l {xs : List PyData} : slL (some (.l xs)) = .ok xs := rf rfl
def slLL : Option Sl → Oc (List (List PyData))
  | some (.ll xs) => .ok xs
  | _ => .un
@[simp] theorem rdLL_o {i : Nat} : rdLL s i = slLL s[i]? := by unfold rdLL slLL; split <;> simp_all
@[simp] theorem slLL_l {xs : List (List PyData)} : slLL (some (.ll xs)) = .ok xs := rf rfl
def slK : Option Sl → Oc (Option Addr × List (Key × PyData))
  | some (.dk o kvs) => .ok (o, kvs)
  | _ => .un
@[simp] theorem rdK_o {i : Nat} : rdK s i = slK s[i]? := by unfold rdK slK; split <;> simp_all
@[simp] theorem slK_l {o : Option Addr} {kvs : List (Key × PyData)} : slK (some (.dk o kvs)) = .ok (o, kvs) := rf rfl
def slT : Option Sl → Oc (List (List Key × PyData))
  | some (.dt kvs) => .ok kvs
  | _ => .un
@[simp] theorem rdT_o {i : Nat} : rdT s i = slT s[i]? := by unfold rdT slT; split <;> simp_all
@[simp] theorem slT_l {kvs : List (List Key × PyData)} : slT (some (.dt kvs)) = .ok kvs := rf rfl
/-! expressions -/
def kP (s : Sls) (z : PyData) : Oc (Sls × PyData) := .ok (s, z)
@[simp] theorem kP_eq {z : PyData} : kP s z = .ok (s, z) := rf rfl
def kPb (s : Sls) (z : Bool) : Oc (Sls × PyData) := .ok (s, .bool z)
@[simp] theorem kPb_eq {z : Bool} : kPb s z = .ok (s, .bool z) := rf rfl
@[simp] theorem dE_var {i : Nat} : denE tb gi (.var i) s = rdO s i s[i]? := by rw [← rdS_o]; simp only [denE]
@[simp] theorem dE_int {n : Int} : denE tb gi (.int n) s = .ok (s, .int n) := by simp only [denE]
@[simp] theorem dE_bl {n : Bool} : denE tb gi (.bl n) s = .ok (s, .bool n) := by simp only [denE]
@[simp] theorem dE_str {n : Str} : denE tb gi (.str n) s = .ok (s, .str n) := by simp only [denE]
@[simp] theorem dE_non : denE tb gi .non s = .ok (s, .none) := by simp only [denE]
def glO (s : Sls) : Option Int → Oc (Sls × PyData)
  | some i => .ok (s, .int i)
  | none => .un
@[simp] theorem dE_glb {x : Str} : denE tb gi (.glb x) s = glO s (gi.lookup x) := by simp only [denE]; cases gi.lookup x <;> rfl
@[simp] theorem glO_s {i : Int} : glO s (some i) = .ok (s, .int i) := rf rfl
@[simp] theorem lk_self {x : Str} {i : Int} {l : List (Str × Int)} : ((x, i) :: l).lookup x = some i := by simp [List.lookup]
def kB2 (o : Bin) (x : PyData) (q : Sls × PyData) : Oc (Sls × PyData) := binD o x q.2 >>= kP q.1
def kB1 (tb : List Fk) (gi : List (Str × Int)) (o : Bin) (b : E) (p : Sls × PyData) : Oc (Sls × PyData) := denE tb gi b p.1 >>= kB2 o p.2
@[simp] theorem dE_bin {o : Bin} {a b : E} : denE tb gi (.bin o a b) s = denE tb gi a s >>= kB1 tb gi o b := by simp only [denE]; rfl
@[simp] theorem kB1_eq {o : Bin} {b : E} {x : PyData} : kB1 tb gi o b (s, x) = denE tb gi b s >>= kB2 o x := rf rfl
@[simp] theorem kB2_eq {o : Bin} {x y : PyData} : kB2 o x (s, y) = binD o x y >>= kP s := rf rfl
def kN (p : Sls × PyData) : Oc (Sls × PyData) := negD p.2 >>= kP p.1
@[simp] theorem dE_neg {a : E} : denE tb gi (.neg a) s = denE tb gi a s >>= kN := by simp only [denE]; rfl
@[simp] theorem kN_eq {x : PyData} : kN (s, x) = negD x >>= kP s := rf rfl
def kC2 (o : Cmp) (x : PyData) (q : Sls × PyData) : Oc (Sls × PyData) := cmpD o x q.2 >>= kPb q.1
def kC1 (tb : List Fk) (gi : List (Str × Int)) (o : Cmp) (b : E) (p : Sls × PyData) : Oc (Sls × PyData) := denE tb gi b p.1 >>= kC2 o p.2
@[simp] theorem dE_cmp {o : Cmp} {a b : E} : denE tb gi (.cmp o a b) s = denE tb gi a s >>= kC1 tb gi o b := by simp only [denE]; rfl
@[simp] theorem kC1_eq {o : Cmp} {b : E} {x : PyData} : kC1 tb gi o b (s, x) = denE tb gi b s >>= kC2 o x := rf rfl
@[simp] theorem kC2_eq {o : Cmp} {x y : PyData} : kC2 o x (s, y) = cmpD o x y >>= kPb s := rf rfl
def kCh3 (tb : List Fk) (gi : List (Str × Int)) (o2 : Cmp) (c : E) (s : Sls) (y : PyData) : Bool → Oc (Sls × PyData)
  | false => .ok (s, .bool false)
  | true => denE tb gi c s >>= kC2 o2 y
def kCh2 (tb : List Fk) (gi : List (Str × Int)) (o1 o2 : Cmp) (c : E) (x : PyData) (q : Sls × PyData) : Oc (Sls × PyData) := cmpD o1 x q.2 >>= kCh3 tb gi o2 c q.1 q.2
def kCh1 (tb : List Fk) (gi : List (Str × Int)) (o1 o2 : Cmp) (b c : E) (p : Sls × PyData) : Oc (Sls × PyData) := denE tb gi b p.1 >>= kCh2 tb gi o1 o2 c p.2
@[simp] theorem dE_chain {o1 o2 : Cmp} {a b c : E} : denE tb gi (.chain o1 o2 a b c) s = denE tb gi a s >>= kCh1 tb gi o1 o2 b c := by
  simp only [denE]
  congr 1; all_goals (funext p; unfold kCh1; congr 1; funext q; unfold kCh2; congr 1; funext z; cases z <;> rfl)
@[simp] theorem kCh1_eq {o1 o2 : Cmp} {b c : E} {x : PyData} : kCh1 tb gi o1 o2 b c (s, x) = denE tb gi b s >>= kCh2 tb gi o1 o2 c x := rf rfl
@[simp] theorem kCh2_eq {o1 o2 : Cmp} {c : E} {x y : PyData} : kCh2 tb gi o1 o2 c x (s, y) = cmpD o1 x y >>= kCh3 tb gi o2 c s y := rf rfl
@[simp] theorem kCh3_f {o2 : Cmp} {c : E} {y : PyData} : kCh3 tb gi o2 c s y false = .ok (s, .bool false) := rf rfl
@[simp] theorem kCh3_t {o2 : Cmp} {c : E} {y : PyData} : kCh3 tb gi o2 c s y true = denE tb gi c s >>= kC2 o2 y := rf rfl
def kNotB (s : Sls) (b : Bool) : Oc (Sls × PyData) := .ok (s, .bool (!b))
def kNot (p : Sls × PyData) : Oc (Sls × PyData) := boolD p.2 >>= kNotB p.1
@[simp] theorem dE_notE {a : E} : denE tb gi (.notE a) s = denE tb gi a s >>= kNot := by simp only [denE]; rfl
@[simp] theorem kNot_eq {x : PyData} : kNot (s, x) = boolD x >>= kNotB s := rf rfl
@[simp] theorem kNotB_eq {x : Bool} : kNotB s x = .ok (s, .bool (!x)) := rf rfl
def kBo (p : Sls × Bool) : Oc (Sls × PyData) := .ok (p.1, .bool p.2)
@[simp] theorem kBo_eq {x : Bool} : kBo (s, x) = .ok (s, .bool x) := rf rfl
@[simp] theorem dE_ands {es : Es} : denE tb gi (.ands es) s = denAnd tb gi es s >>= kBo := by simp only [denE]; rfl
@[simp] theorem dE_ors {es : Es} : denE tb gi (.ors es) s = denOr tb gi es s >>= kBo := by simp only [denE]; rfl
def kBP (s : Sls) (b : Bool) : Oc (Sls × Bool) := .ok (s, b)
@[simp] theorem kBP_eq {x : Bool} : kBP s x = .ok (s, x) := rf rfl
def kToB (p : Sls × PyData) : Oc (Sls × Bool) := boolD p.2 >>= kBP p.1
@[simp] theorem kToB_eq {x : PyData} : kToB (s, x) = boolD x >>= kBP s := rf rfl
def kAndB (tb : List Fk) (gi : List (Str × Int)) (es : Es) (s : Sls) : Bool → Oc (Sls × Bool)
  | false => .ok (s, false)
  | true => denAnd tb gi es s
def kAnd (tb : List Fk) (gi : List (Str × Int)) (es : Es) (p : Sls × PyData) : Oc (Sls × Bool) := boolD p.2 >>= kAndB tb gi es p.1
@[simp] theorem dA_one {e : E} : denAnd tb gi (.cons e .nil) s = denE tb gi e s >>= kToB := by simp only [denAnd]; rfl
@[simp] theorem dA_cons {e e2 : E} {es : Es} : denAnd tb gi (.cons e (.cons e2 es)) s = denE tb gi e s >>= kAnd tb gi (.cons e2 es) := by
  rw [denAnd]
  congr 1; all_goals (funext p; unfold kAnd; congr 1; funext b; cases b <;> rfl)
@[simp] theorem kAnd_eq {es : Es} {x : PyData} : kAnd tb gi es (s, x) = boolD x >>= kAndB tb gi es s := rf rfl
@[simp] theorem kAndB_f {es : Es} : kAndB tb gi es s false = .ok (s, false) := rf rfl
@[simp] theorem kAndB_t {es : Es} : kAndB tb gi es s true = denAnd tb gi es s := rf rfl
def kOrB (tb : List Fk) (gi : List (Str × Int)) (es : Es) (s : Sls) : Bool → Oc (Sls × Bool)
  | true => .ok (s, true)
  | false => denOr tb gi es s
def kOr (tb : List Fk) (gi : List (Str × Int)) (es : Es) (p : Sls × PyData) : Oc (Sls × Bool) := boolD p.2 >>= kOrB tb gi es p.1
@[simp] theorem dO_one {e : E} : denOr tb gi (.cons e .nil) s = denE tb gi e s >>= kToB := by simp only [denOr]; rfl
@[simp] theorem dO_cons {e e2 : E} {es : Es} : denOr tb gi (.cons e (.cons e2 es)) s = denE tb gi e s >>= kOr tb gi (.cons e2 es) := by
  rw [denOr]
  congr 1; all_goals (funext p; unfold kOr; congr 1; funext b; cases b <;> rfl)
@[simp] theorem kOr_eq {es : Es} {x : PyData} : kOr tb gi es (s, x) = boolD x >>= kOrB tb gi es s := rf rfl
@[simp] theorem kOrB_t {es : Es} : kOrB tb gi es s true = .ok (s, true) := rf rfl
@[simp] theorem kOrB_f {es : Es} : kOrB tb gi es s false = denOr tb gi es s := rf rfl
def kIte (tb : List Fk) (gi : List (Str × Int)) (a b : E) (p : Sls × Bool) : Oc (Sls × PyData) := match p.2 with
  | true => denE tb gi a p.1
  | false => denE tb gi b p.1
@[simp] theorem dE_ite {t : T} {a b : E} : denE tb gi (.ite t a b) s = denT tb gi t s >>= kIte tb gi a b := by
  simp only [denE]; congr 1; all_goals (funext p; obtain ⟨p1, p2⟩ := p; cases p2 <;> rfl)
@[simp] theorem kIte_t {a b : E} : kIte tb gi a b (s, true) = denE tb gi a s := rf rfl
@[simp] theorem kIte_f {a b : E} : kIte tb gi a b (s, false) = denE tb gi b s := rf rfl
def kTup (p : Sls × List PyData) : Oc (Sls × PyData) := if p.2.length ≤ 1000 then .ok (p.1, .tuple p.2) else .un
@[simp] theorem dE_tup {es : Es} : denE tb gi (.tup es) s = denEs tb gi es s >>= kTup := by simp only [denE]; rfl
@[simp] theorem kTup_eq {xs : List PyData} : kTup (s, xs) = if xs.length ≤ 1000 then .ok (s, .tuple xs) else .un := rf rfl
def kLst (p : Sls × List PyData) : Oc (Sls × PyData) := .ok (p.1, .list p.2)
@[simp] theorem dE_fz {l : L} : denE tb gi (.fz l) s = denL tb gi l s >>= kLst := by simp only [denE]; rfl
@[simp] theorem kLst_eq {xs : List PyData} : kLst (s, xs) = .ok (s, .list xs) := rf rfl
def kIx2 (x : PyData) (q : Sls × PyData) : Oc (Sls × PyData) := ixD x q.2 >>= kP q.1
def kIx1 (tb : List Fk) (gi : List (Str × Int)) (b : E) (p : Sls × PyData) : Oc (Sls × PyData) := denE tb gi b p.1 >>= kIx2 p.2
@[simp] theorem dE_ix {a b : E} : denE tb gi (.ix a b) s = denE tb gi a s >>= kIx1 tb gi b := by simp only [denE]; rfl
@[simp] theorem kIx1_eq {b : E} {x : PyData} : kIx1 tb gi b (s, x) = denE tb gi b s >>= kIx2 x := rf rfl
@[simp] theorem kIx2_eq {x y : PyData} : kIx2 x (s, y) = ixD x y >>= kP s := rf rfl
def kIvL2 (s : Sls) (xs : List PyData) (k : Int) : Oc (Sls × PyData) := ofO (atI xs k) >>= kP s
def kIvL1 (i : Nat) (q : Sls × PyData) : Oc (Sls × PyData) := intD q.2 >>= fun k => rdL q.1 i >>= fun xs => kIvL2 q.1 xs k
def kIvK (i : Nat) (q : Sls × PyData) : Oc (Sls × PyData) := ofO (keyOf q.2) >>= fun k => rdK q.1 i >>= fun w => ofO (valD w.2 k) >>= kP q.1
def kIvT (i : Nat) (q : Sls × PyData) : Oc (Sls × PyData) := ofO (tkeyOf q.2) >>= fun k => rdT q.1 i >>= fun w => ofO (valD w k) >>= kP q.1
def ixvO (tb : List Fk) (gi : List (Str × Int)) (i : Nat) (b : E) (s : Sls) : Option Sl → Oc (Sls × PyData)
  | some (.l _) => denE tb gi b s >>= kIvL1 i
  | some (.d d) => denE tb gi b s >>= kIx2 d
  | some (.dk _ _) => denE tb gi b s >>= kIvK i
  | some (.dt _) => denE tb gi b s >>= kIvT i
  | _ => .un
@[simp] theorem dE_ixv {i : Nat} {b : E} : denE tb gi (.ixv i b) s = ixvO tb gi i b s s[i]? := by
  simp only [denE]
  split <;> simp_all [ixvO] <;> rfl
@[simp] theorem ixvO_l {i : Nat} {b : E} {xs : List PyData} : ixvO tb gi i b s (some (.l xs)) = denE tb gi b s >>= kIvL1 i := rf rfl
@[simp] theorem ixvO_d {i : Nat} {b : E} {d : PyData} : ixvO tb gi i b s (some (.d d)) = denE tb gi b s >>= kIx2 d := rf rfl
@[simp] theorem ixvO_dk {i : Nat} {b : E} {o : Option Addr} {kvs : List (Key × PyData)} : ixvO tb gi i b s (some (.dk o kvs)) = denE tb gi b s >>= kIvK i := rf rfl
@[simp] theorem ixvO_dt {i : Nat} {b : E} {kvs : List (List Key × PyData)} : ixvO tb gi i b s (some (.dt kvs)) = denE tb gi b s >>= kIvT i := rf rfl
@[simp] theorem kIvL1_eq {i : Nat} {k : Int} : kIvL1 i (s, .int k) = slL s[i]? >>= fun xs => kIvL2 s xs k := by unfold kIvL1; rw [← rdL_o]; rfl
@[simp] theorem kIvL2_eq {xs : List PyData} {k : Int} : kIvL2 s xs k = ofO (atI xs k) >>= kP s := rf rfl
def kIvK2 (s : Sls) (k : Key) (w : Option Addr × List (Key × PyData)) : Oc (Sls × PyData) := ofO (valD w.2 k) >>= kP s
@[simp] theorem kIvK_s {i : Nat} {x : Str} : kIvK i (s, .str x) = slK s[i]? >>= kIvK2 s (.inr x) := by unfold kIvK; rw [← rdK_o]; rfl
@[simp] theorem kIvK_i {i : Nat} {x : Int} : kIvK i (s, .int x) = slK s[i]? >>= kIvK2 s (.inl x) := by unfold kIvK; rw [← rdK_o]; rfl
@[simp] theorem kIvK2_eq {k : Key} {o : Option Addr} {kvs : List (Key × PyData)} : kIvK2 s k (o, kvs) = ofO (valD kvs k) >>= kP s := rf rfl
def lenO : Option Sl → Oc PyData
  | some (.l xs) => .ok (.int xs.length)
  | some (.d d) => lenD d
  | _ => .un
@[simp] theorem lenO_l {xs : List PyData} : lenO (some (.l xs)) = .ok (.int xs.length) := rf rfl
@[simp] theorem lenO_d {d : PyData} : lenO (some (.d d)) = lenD d := rf rfl
@[simp] theorem dE_lenv {i : Nat} : denE tb gi (.lenv i) s = lenO s[i]? >>= kP s := by
  simp only [denE, lenS]
  cases h : s[i]? with
  | none => rfl
  | some v => cases v <;> rfl
def kBi (f : Bi) (p : Sls × List PyData) : Oc (Sls × PyData) := biD f p.2 >>= kP p.1
@[simp] theorem dE_bi {f : Bi} {es : Es} : denE tb gi (.bi f es) s = denEs tb gi es s >>= kBi f := by simp only [denE]; rfl
@[simp] theorem kBi_eq {f : Bi} {xs : List PyData} : kBi f (s, xs) = biD f xs >>= kP s := rf rfl
/-- the def that stands there -/
def tbD : Option Fk → List PyData → Oc PyData
  | some (.dd f), ds => f ds
  | _, _ => .un
@[simp] theorem tbD_d {f : List PyData → Oc PyData} {ds : List PyData} : tbD (some (.dd f)) ds = f ds := rf rfl
theorem callD_eq {k : Nat} {ds : List PyData} : callD tb k ds = tbD tb[k]? ds := by unfold callD tbD; split <;> simp_all
def kCall (tb : List Fk) (k : Nat) (p : Sls × List PyData) : Oc (Sls × PyData) := (callD tb k p.2).here p.1 >>= kP p.1
@[simp] theorem dE_call {k : Nat} {es : Es} : denE tb gi (.call k es) s = denEs tb gi es s >>= kCall tb k := by simp only [denE]; rfl
@[simp] theorem kCall_eq {k : Nat} {xs : List PyData} : kCall tb k (s, xs) = (tbD tb[k]? xs).here s >>= kP s := by rw [← callD_eq]; rfl
/-- what it does wherever the dict stands -/
def allP (f : Addr → List (Key × PyData) → List PyData → Oc (List (Key × PyData) × PyData)) (kvs : List (Key × PyData)) (ds : List PyData) : Oc (List (Key × PyData) × PyData) := atAll fun p => f p kvs ds
def tbS : Option Fk → List (Key × PyData) → List PyData → Oc (List (Key × PyData) × PyData)
  | some (.ss f), kvs, ds => allP f kvs ds
  | _, _, _ => .un
@[simp] theorem tbS_s {f : Addr → List (Key × PyData) → List PyData → Oc (List (Key × PyData) × PyData)} {kvs : List (Key × PyData)} {ds : List PyData} : tbS (some (.ss f)) kvs ds = allP f kvs ds := rf rfl
theorem callSD_eq {k : Nat} {kvs : List (Key × PyData)} {ds : List PyData} : callSD tb k kvs ds = tbS tb[k]? kvs ds := by unfold callSD tbS; split <;> simp_all <;> rfl
def kCS3 (i : Nat) (s : Sls) (o : Option Addr) (z : List (Key × PyData) × PyData) : Oc (Sls × PyData) := .ok (s.set i (.dk o z.1), z.2)
def kCS2 (tb : List Fk) (k i : Nat) (s : Sls) (ds : List PyData) (w : Option Addr × List (Key × PyData)) : Oc (Sls × PyData) := (callSD tb k w.2 ds).here s >>= kCS3 i s w.1
def kCS1 (tb : List Fk) (k i : Nat) (p : Sls × List PyData) : Oc (Sls × PyData) := rdK p.1 i >>= kCS2 tb k i p.1 p.2
def kCS0 (tb : List Fk) (gi : List (Str × Int)) (k i : Nat) (es : Es) (s : Sls) (w : Option Addr × List (Key × PyData)) : Oc (Sls × PyData) := denEs tb gi es s >>= kCS1 tb k i
@[simp] theorem dE_callS {k i : Nat} {es : Es} : denE tb gi (.callS k i es) s = slK s[i]? >>= kCS0 tb gi k i es s := by rw [← rdK_o]; simp only [denE]; rfl
@[simp] theorem kCS0_eq {k i : Nat} {es : Es} {o : Option Addr} {kvs : List (Key × PyData)} : kCS0 tb gi k i es s (o, kvs) = denEs tb gi es s >>= kCS1 tb k i := rf rfl
@[simp] theorem kCS1_eq {k i : Nat} {ds : List PyData} : kCS1 tb k i (s, ds) = slK s[i]? >>= kCS2 tb k i s ds := by rw [← rdK_o]; rfl
@[simp] theorem kCS2_eq {k i : Nat} {ds : List PyData} {o : Option Addr} {kvs : List (Key × PyData)} : kCS2 tb k i s ds (o, kvs) = (tbS tb[k]? kvs ds).here s >>= kCS3 i s o := by rw [← callSD_eq]; rfl
@[simp] theorem kCS3_eq {i : Nat} {o : Option Addr} {kvs : List (Key × PyData)} {z : PyData} : kCS3 i s o (kvs, z) = .ok (s.set i (.dk o kvs), z) := rf rfl
def kSl3 (x : PyData) (lo : Option Int) (h : Sls × Option Int) : Oc (Sls × PyData) := tupD x >>= fun xs => .ok (h.1, .tuple (sliceD xs lo h.2))
def kSl2 (tb : List Fk) (gi : List (Str × Int)) (hi : Oe) (x : PyData) (l : Sls × Option Int) : Oc (Sls × PyData) := denOe tb gi hi l.1 >>= kSl3 x l.2
def kSl1 (tb : List Fk) (gi : List (Str × Int)) (lo hi : Oe) (p : Sls × PyData) : Oc (Sls × PyData) := denOe tb gi lo p.1 >>= kSl2 tb gi hi p.2
@[simp] theorem dE_slT {a : E} {lo hi : Oe} : denE tb gi (.slT a lo hi) s = denE tb gi a s >>= kSl1 tb gi lo hi := by simp only [denE]; rfl
@[simp] theorem kSl1_eq {lo hi : Oe} {x : PyData} : kSl1 tb gi lo hi (s, x) = denOe tb gi lo s >>= kSl2 tb gi hi x := rf rfl
@[simp] theorem kSl2_eq {hi : Oe} {x : PyData} {l : Option Int} : kSl2 tb gi hi x (s, l) = denOe tb gi hi s >>= kSl3 x l := rf rfl
@[simp] theorem kSl3_eq {xs : List PyData} {l h : Option Int} : kSl3 (.tuple xs) l (s, h) = .ok (s, .tuple (sliceD xs l h)) := rf rfl
def kBk3 (x : PyData) (lo : Option Int) (h : Sls × Option Int) : Oc (Sls × PyData) := tupD x >>= fun xs => if (backD xs lo h.2).length ≤ 1000 then .ok (h.1, .tuple (backD xs lo h.2)) else .un
def kBk2 (tb : List Fk) (gi : List (Str × Int)) (hi : Oe) (x : PyData) (l : Sls × Option Int) : Oc (Sls × PyData) := denOe tb gi hi l.1 >>= kBk3 x l.2
def kBk1 (tb : List Fk) (gi : List (Str × Int)) (lo hi : Oe) (p : Sls × PyData) : Oc (Sls × PyData) := denOe tb gi lo p.1 >>= kBk2 tb gi hi p.2
@[simp] theorem dE_bk {a : E} {lo hi : Oe} : denE tb gi (.bk a lo hi) s = denE tb gi a s >>= kBk1 tb gi lo hi := by simp only [denE]; rfl
@[simp] theorem kBk1_eq {lo hi : Oe} {x : PyData} : kBk1 tb gi lo hi (s, x) = denOe tb gi lo s >>= kBk2 tb gi hi x := rf rfl
@[simp] theorem kBk2_eq {hi : Oe} {x : PyData} {l : Option Int} : kBk2 tb gi hi x (s, l) = denOe tb gi hi s >>= kBk3 x l := rf rfl
@[simp] theorem kBk3_eq {xs : List PyData} {l h : Option Int} : kBk3 (.tuple xs) l (s, h) = if (backD xs l h).length ≤ 1000 then .ok (s, .tuple (backD xs l h)) else .un := rf rfl
def kTy (ne : Bool) (t : String) (p : Sls × PyData) : Oc (Sls × PyData) := match ne with
  | false => .ok (p.1, .bool (decide (tyD p.2 = t)))
  | true => if tyD p.2 = t then .ok (p.1, .bool false) else .un
@[simp] theorem dE_tyIs {ne : Bool} {a : E} {t : String} : denE tb gi (.tyIs ne a t) s = denE tb gi a s >>= kTy ne t := by simp only [denE]; rfl
@[simp] theorem kTy_f {t : String} {x : PyData} : kTy false t (s, x) = .ok (s, .bool (decide (tyD x = t))) := rf rfl
@[simp] theorem kTy_t {t : String} {x : PyData} : kTy true t (s, x) = if tyD x = t then .ok (s, .bool false) else .un := rf rfl
def kTy2 (ne : Bool) (t1 t2 : String) (p : Sls × PyData) : Oc (Sls × PyData) := .ok (p.1, .bool (negIf ne (decide (t1 = tyD p.2) || decide (t2 = tyD p.2))))
@[simp] theorem dE_tyIn {ne : Bool} {a : E} {t1 t2 : String} : denE tb gi (.tyIn ne a t1 t2) s = denE tb gi a s >>= kTy2 ne t1 t2 := by simp only [denE]; rfl
@[simp] theorem kTy2_eq {ne : Bool} {t1 t2 : String} {x : PyData} : kTy2 ne t1 t2 (s, x) = .ok (s, .bool (negIf ne (decide (t1 = tyD x) || decide (t2 = tyD x)))) := rf rfl
def kInB (ne : Bool) (s : Sls) (z : Bool) : Oc (Sls × PyData) := .ok (s, .bool (negIf ne z))
@[simp] theorem kInB_eq {ne z : Bool} : kInB ne s z = .ok (s, .bool (negIf ne z)) := rf rfl
def kIn2 (ne : Bool) (x : PyData) (q : Sls × PyData) : Oc (Sls × PyData) := innD x q.2 >>= kInB ne q.1
def kIn1 (tb : List Fk) (gi : List (Str × Int)) (ne : Bool) (b : E) (p : Sls × PyData) : Oc (Sls × PyData) := denE tb gi b p.1 >>= kIn2 ne p.2
@[simp] theorem dE_inn {ne : Bool} {a b : E} : denE tb gi (.inn ne a b) s = denE tb gi a s >>= kIn1 tb gi ne b := by simp only [denE]; rfl
@[simp] theorem kIn1_eq {ne : Bool} {b : E} {x : PyData} : kIn1 tb gi ne b (s, x) = denE tb gi b s >>= kIn2 ne x := rf rfl
@[simp] theorem kIn2_eq {ne : Bool} {x y : PyData} : kIn2 ne x (s, y) = innD x y >>= kInB ne s := rf rfl
def innO (ne : Bool) (s : Sls) (x : PyData) : Option Sl → Oc (Sls × PyData)
  | some (.dk _ kvs) => ofO (keyOf x) >>= fun k => .ok (s, .bool (negIf ne (valD kvs k).isSome))
  | some (.dt kvs) => ofO (tkeyOf x) >>= fun k => .ok (s, .bool (negIf ne (valD kvs k).isSome))
  | _ => .un
def kInv (ne : Bool) (i : Nat) (p : Sls × PyData) : Oc (Sls × PyData) := innO ne p.1 p.2 p.1[i]?
@[simp] theorem dE_innv {ne : Bool} {a : E} {i : Nat} : denE tb gi (.innv ne a i) s = denE tb gi a s >>= kInv ne i := by
  simp only [denE]; congr 1
  all_goals
    funext p; unfold kInv innO
    cases h : p.1[i]? with
    | none => rfl
    | some v => cases v <;> rfl
@[simp] theorem kInv_eq {ne : Bool} {i : Nat} {x : PyData} : kInv ne i (s, x) = innO ne s x s[i]? := rf rfl
@[simp] theorem innO_dt {ne : Bool} {x : PyData} {kvs : List (List Key × PyData)} : innO ne s x (some (.dt kvs)) = ofO (tkeyOf x) >>= fun k => .ok (s, .bool (negIf ne (valD kvs k).isSome)) := rf rfl
@[simp] theorem innO_dk {ne : Bool} {x : PyData} {o : Option Addr} {kvs : List (Key × PyData)} : innO ne s x (some (.dk o kvs)) = ofO (keyOf x) >>= fun k => .ok (s, .bool (negIf ne (valD kvs k).isSome)) := rf rfl
/-! bounds, lists of expressions -/
def kOe (p : Sls × PyData) : Oc (Sls × Option Int) := intD p.2 >>= fun i => .ok (p.1, some i)
@[simp] theorem dOe_no : denOe tb gi .no s = .ok (s, none) := by simp only [denOe]
@[simp] theorem dOe_so {e : E} : denOe tb gi (.so e) s = denE tb gi e s >>= kOe := by simp only [denOe]; rfl
@[simp] theorem kOe_eq {i : Int} : kOe (s, .int i) = .ok (s, some i) := rf rfl
def kEs2 (x : PyData) (q : Sls × List PyData) : Oc (Sls × List PyData) := .ok (q.1, x :: q.2)
def kEs1 (tb : List Fk) (gi : List (Str × Int)) (es : Es) (p : Sls × PyData) : Oc (Sls × List PyData) := denEs tb gi es p.1 >>= kEs2 p.2
@[simp] theorem dEs_nil : denEs tb gi .nil s = .ok (s, []) := by simp only [denEs]
@[simp] theorem dEs_cons {e : E} {es : Es} : denEs tb gi (.cons e es) s = denE tb gi e s >>= kEs1 tb gi es := by simp only [denEs]; rfl
@[simp] theorem kEs1_eq {es : Es} {x : PyData} : kEs1 tb gi es (s, x) = denEs tb gi es s >>= kEs2 x := rf rfl
@[simp] theorem kEs2_eq {x : PyData} {xs : List PyData} : kEs2 x (s, xs) = .ok (s, x :: xs) := rf rfl
/-! new lists -/
def kLs (p : Sls × List PyData) : Oc (Sls × List PyData) := if p.2.length ≤ 1000 then .ok p else .un
@[simp] theorem dL_lst {es : Es} : denL tb gi (.lst es) s = denEs tb gi es s >>= kLs := by simp only [denL]; rfl
@[simp] theorem kLs_eq {xs : List PyData} : kLs (s, xs) = if xs.length ≤ 1000 then .ok (s, xs) else .un := rf rfl
def kRep2 (xs : List PyData) (q : Sls × PyData) : Oc (Sls × List PyData) := intD q.2 >>= fun k => if -(2 ^ 63) ≤ k ∧ k < 2 ^ 63 ∧ xs.length * k.toNat ≤ 100000 then .ok (q.1, (List.replicate k.toNat xs).flatten) else .un
def kRep1 (tb : List Fk) (gi : List (Str × Int)) (b : E) (p : Sls × List PyData) : Oc (Sls × List PyData) := denE tb gi b p.1 >>= kRep2 p.2
@[simp] theorem dL_rep {a : L} {b : E} : denL tb gi (.rep a b) s = denL tb gi a s >>= kRep1 tb gi b := by simp only [denL]; rfl
@[simp] theorem kRep1_eq {b : E} {xs : List PyData} : kRep1 tb gi b (s, xs) = denE tb gi b s >>= kRep2 xs := rf rfl
@[simp] theorem kRep2_eq {xs : List PyData} {k : Int} : kRep2 xs (s, .int k) = if -(2 ^ 63) ≤ k ∧ k < 2 ^ 63 ∧ xs.length * k.toNat ≤ 100000 then .ok (s, (List.replicate k.toNat xs).flatten) else .un := rf rfl
def kCat2 (x : PyData) (q : Sls × PyData) : Oc (Sls × List PyData) := listD x >>= fun xs => listD q.2 >>= fun ys => if xs.length + ys.length ≤ 100000 then .ok (q.1, xs ++ ys) else .un
def kCat1 (tb : List Fk) (gi : List (Str × Int)) (b : E) (p : Sls × PyData) : Oc (Sls × List PyData) := denE tb gi b p.1 >>= kCat2 p.2
@[simp] theorem dL_cat {a b : E} : denL tb gi (.cat a b) s = denE tb gi a s >>= kCat1 tb gi b := by simp only [denL]; rfl
@[simp] theorem kCat1_eq {b : E} {x : PyData} : kCat1 tb gi b (s, x) = denE tb gi b s >>= kCat2 x := rf rfl
@[simp] theorem kCat2_eq {xs ys : List PyData} : kCat2 (.list xs) (s, .list ys) = if xs.length + ys.length ≤ 100000 then .ok (s, xs ++ ys) else .un := rf rfl
def kSc3 (x : PyData) (lo : Option Int) (h : Sls × Option Int) : Oc (Sls × List PyData) := listD x >>= fun xs => .ok (h.1, sliceD xs lo h.2)
def kSc2 (tb : List Fk) (gi : List (Str × Int)) (hi : Oe) (x : PyData) (l : Sls × Option Int) : Oc (Sls × List PyData) := denOe tb gi hi l.1 >>= kSc3 x l.2
def kSc1 (tb : List Fk) (gi : List (Str × Int)) (lo hi : Oe) (p : Sls × PyData) : Oc (Sls × List PyData) := denOe tb gi lo p.1 >>= kSc2 tb gi hi p.2
@[simp] theorem dL_slc {a : E} {lo hi : Oe} : denL tb gi (.slc a lo hi) s = denE tb gi a s >>= kSc1 tb gi lo hi := by simp only [denL]; rfl
@[simp] theorem kSc1_eq {lo hi : Oe} {x : PyData} : kSc1 tb gi lo hi (s, x) = denOe tb gi lo s >>= kSc2 tb gi hi x := rf rfl
@[simp] theorem kSc2_eq {hi : Oe} {x : PyData} {l : Option Int} : kSc2 tb gi hi x (s, l) = denOe tb gi hi s >>= kSc3 x l := rf rfl
@[simp] theorem kSc3_eq {xs : List PyData} {l h : Option Int} : kSc3 (.list xs) l (s, h) = .ok (s, sliceD xs l h) := rf rfl
def kPL (s : Sls) (z : List PyData) : Oc (Sls × List PyData) := .ok (s, z)
@[simp] theorem kPL_eq {z : List PyData} : kPL s z = .ok (s, z) := rf rfl
def kBl (f : Bl) (p : Sls × List PyData) : Oc (Sls × List PyData) := blD f p.2 >>= kPL p.1
@[simp] theorem dL_bl {f : Bl} {es : Es} : denL tb gi (.bl f es) s = denEs tb gi es s >>= kBl f := by simp only [denL]; rfl
@[simp] theorem kBl_eq {f : Bl} {xs : List PyData} : kBl f (s, xs) = blD f xs >>= kPL s := rf rfl
def stE (tb : List Fk) (gi : List (Str × Int)) (g : G) (elt : E) (s : Sls) (d : PyData) : Oc (Sls × PyData) := denG g s d >>= fun m => denE tb gi elt m
def kLc (tb : List Fk) (gi : List (Str × Int)) (own : List Nat) (g : G) (elt : E) (p : Sls × List PyData) : Oc (Sls × List PyData) := if p.2.length ≤ 100000 ∧ (∀ j ∈ tsG g, j ∈ own) then lcF own (stE tb gi g elt) p.2 (wipeS p.1 own) else .un
@[simp] theorem dL_lc {own : List Nat} {g : G} {it : I} {elt : E} : denL tb gi (.lc own g it elt) s = denI tb gi it s >>= kLc tb gi own g elt := by simp only [denL]; rfl
theorem kLc_eq {own : List Nat} {g : G} {elt : E} {xs : List PyData} (h : xs.length ≤ 100000) (h2 : (tsG g).all (own.contains ·) = true) : kLc tb gi own g elt (s, xs) = lcF own (stE tb gi g elt) xs (wipeS s own) := by
  unfold kLc
  rw [if_pos ⟨h, fun j hj => List.contains_iff_mem.mp (List.all_eq_true.mp h2 j hj)⟩]
def kLfB (tb : List Fk) (gi : List (Str × Int)) (elt : E) (t : Sls × Bool) : Oc (Sls × Option PyData) := match t.2 with
  | true => denE tb gi elt t.1 >>= fun q => .ok (q.1, some q.2)
  | false => .ok (t.1, none)
def stEI (tb : List Fk) (gi : List (Str × Int)) (g : G) (c : T) (elt : E) (s : Sls) (d : PyData) : Oc (Sls × Option PyData) := denG g s d >>= fun m => denT tb gi c m >>= kLfB tb gi elt
def kLcIf (tb : List Fk) (gi : List (Str × Int)) (own : List Nat) (g : G) (c : T) (elt : E) (p : Sls × List PyData) : Oc (Sls × List PyData) := if p.2.length ≤ 100000 ∧ (∀ j ∈ tsG g, j ∈ own) then lcIfF own (stEI tb gi g c elt) p.2 (wipeS p.1 own) else .un
@[simp] theorem dL_lcIf {own : List Nat} {g : G} {it : I} {c : T} {elt : E} : denL tb gi (.lcIf own g it c elt) s = denI tb gi it s >>= kLcIf tb gi own g c elt := by
  simp only [denL]
  congr 1; all_goals (funext p; unfold kLcIf)
theorem kLcIf_eq {own : List Nat} {g : G} {c : T} {elt : E} {xs : List PyData} (h : xs.length ≤ 100000) (h2 : (tsG g).all (own.contains ·) = true) : kLcIf tb gi own g c elt (s, xs) = lcIfF own (stEI tb gi g c elt) xs (wipeS s own) := by
  unfold kLcIf
  rw [if_pos ⟨h, fun j hj => List.contains_iff_mem.mp (List.all_eq_true.mp h2 j hj)⟩]
/-! tests -/
@[simp] theorem dT_val {e : E} : denT tb gi (.val e) s = denE tb gi e s >>= kToB := by simp only [denT]; rfl
def kTn (p : Sls × Bool) : Oc (Sls × Bool) := .ok (p.1, !p.2)
@[simp] theorem dT_nt {t : T} : denT tb gi (.nt t) s = denT tb gi t s >>= kTn := by simp only [denT]; rfl
@[simp] theorem kTn_eq {b : Bool} : kTn (s, b) = .ok (s, !b) := rf rfl
@[simp] theorem dT_ands {ts : Ts} : denT tb gi (.ands ts) s = denTA tb gi ts s := by simp only [denT]
@[simp] theorem dT_ors {ts : Ts} : denT tb gi (.ors ts) s = denTO tb gi ts s := by simp only [denT]
def kTA (tb : List Fk) (gi : List (Str × Int)) (ts : Ts) (p : Sls × Bool) : Oc (Sls × Bool) := match p.2 with
  | false => .ok (p.1, false)
  | true => denTA tb gi ts p.1
def kTO (tb : List Fk) (gi : List (Str × Int)) (ts : Ts) (p : Sls × Bool) : Oc (Sls × Bool) := match p.2 with
  | true => .ok (p.1, true)
  | false => denTO tb gi ts p.1
@[simp] theorem dTA_one {t : T} : denTA tb gi (.one t) s = denT tb gi t s := by simp only [denTA]
@[simp] theorem dTA_cons {t : T} {ts : Ts} : denTA tb gi (.cons t ts) s = denT tb gi t s >>= kTA tb gi ts := by
  simp only [denTA]; congr 1
@[simp] theorem dTO_one {t : T} : denTO tb gi (.one t) s = denT tb gi t s := by simp only [denTO]
@[simp] theorem dTO_cons {t : T} {ts : Ts} : denTO tb gi (.cons t ts) s = denT tb gi t s >>= kTO tb gi ts := by
  simp only [denTO]; congr 1
@[simp] theorem kTA_f {ts : Ts} : kTA tb gi ts (s, false) = .ok (s, false) := rf rfl
@[simp] theorem kTA_t {ts : Ts} : kTA tb gi ts (s, true) = denTA tb gi ts s := rf rfl
@[simp] theorem kTO_t {ts : Ts} : kTO tb gi ts (s, true) = .ok (s, true) := rf rfl
@[simp] theorem kTO_f {ts : Ts} : kTO tb gi ts (s, false) = denTO tb gi ts s := rf rfl
/-! what is walked -/
def kSeq (p : Sls × PyData) : Oc (Sls × List PyData) := match p.2 with
    | .list xs => .ok (p.1, xs)
    | .tuple xs => .ok (p.1, xs)
    | d => match dictV d with
      | some (.k kvs) => .ok (p.1, kvs.map fun p => kyD p.1)
      | some (.t kvs) => .ok (p.1, kvs.map fun p => .tuple (p.1.map kyD))
      | _ => .un
@[simp] theorem dI_seq {e : E} : denI tb gi (.seq e) s = denE tb gi e s >>= kSeq := by
  simp only [denI]; congr 1
@[simp] theorem kSeq_l {xs : List PyData} : kSeq (s, .list xs) = .ok (s, xs) := rf rfl
@[simp] theorem kSeq_t {xs : List PyData} : kSeq (s, .tuple xs) = .ok (s, xs) := rf rfl
def kRng (p : Sls × PyData) : Oc (Sls × List PyData) := intD p.2 >>= fun j => if rngOk j then .ok (p.1, rngD 0 j.toNat) else .un
@[simp] theorem dI_rng {e : E} : denI tb gi (.rng e) s = denE tb gi e s >>= kRng := by simp only [denI]; rfl
@[simp] theorem kRng_eq {j : Int} : kRng (s, .int j) = if rngOk j then .ok (s, rngD 0 j.toNat) else .un := rf rfl
def kRg2 (x : PyData) (q : Sls × PyData) : Oc (Sls × List PyData) := intD x >>= fun i => intD q.2 >>= fun j => if rngOk i ∧ rngOk j then .ok (q.1, rngD i (j - i).toNat) else .un
def kRg1 (tb : List Fk) (gi : List (Str × Int)) (b : E) (p : Sls × PyData) : Oc (Sls × List PyData) := denE tb gi b p.1 >>= kRg2 p.2
@[simp] theorem dI_rng2 {a b : E} : denI tb gi (.rng2 a b) s = denE tb gi a s >>= kRg1 tb gi b := by simp only [denI]; rfl
@[simp] theorem kRg1_eq {b : E} {x : PyData} : kRg1 tb gi b (s, x) = denE tb gi b s >>= kRg2 x := rf rfl
@[simp] theorem kRg2_eq {i j : Int} : kRg2 (.int i) (s, .int j) = if rngOk i ∧ rngOk j then .ok (s, rngD i (j - i).toNat) else .un := rf rfl
def kEnum (p : Sls × PyData) : Oc (Sls × List PyData) := seqD p.2 >>= fun xs => .ok (p.1, enumD 0 xs)
@[simp] theorem dI_enum {e : E} : denI tb gi (.enum e) s = denE tb gi e s >>= kEnum := by simp only [denI]; rfl
@[simp] theorem kEnum_l {xs : List PyData} : kEnum (s, .list xs) = .ok (s, enumD 0 xs) := rf rfl
@[simp] theorem kEnum_t {xs : List PyData} : kEnum (s, .tuple xs) = .ok (s, enumD 0 xs) := rf rfl
def kZip2 (x : PyData) (q : Sls × PyData) : Oc (Sls × List PyData) := match x, q.2 with
    | .tuple xs, .tuple ys => .ok (q.1, zipD xs ys)
    | .list xs, .list ys => .ok (q.1, zipD xs ys)
    | _, _ => .un
def kZip1 (tb : List Fk) (gi : List (Str × Int)) (b : E) (p : Sls × PyData) : Oc (Sls × List PyData) := denE tb gi b p.1 >>= kZip2 p.2
@[simp] theorem dI_zip {a b : E} : denI tb gi (.zip a b) s = denE tb gi a s >>= kZip1 tb gi b := by
  simp only [denI]; congr 1
@[simp] theorem kZip1_eq {b : E} {x : PyData} : kZip1 tb gi b (s, x) = denE tb gi b s >>= kZip2 x := rf rfl
@[simp] theorem kZip2_t {xs ys : List PyData} : kZip2 (.tuple xs) (s, .tuple ys) = .ok (s, zipD xs ys) := rf rfl
@[simp] theorem kZip2_l {xs ys : List PyData} : kZip2 (.list xs) (s, .list ys) = .ok (s, zipD xs ys) := rf rfl
/-! targets -/
@[simp] theorem dG_nm {i : Nat} {d : PyData} : denG (.nm i) s d = setS s i (.d d) := by simp only [denG]
def kGs (gs : Gs) (s : Sls) (ds : List PyData) : Oc Sls := denGs gs s ds
@[simp] theorem dG_tup {gs : Gs} {ds : List PyData} : denG (.tup gs) s (.tuple ds) = denGs gs s ds := by simp only [denG]; rfl
@[simp] theorem dGs_nil : denGs .nil s [] = .ok s := by simp only [denGs]
def kG1 (gs : Gs) (ds : List PyData) (s1 : Sls) : Oc Sls := denGs gs s1 ds
@[simp] theorem dGs_cons {g : G} {gs : Gs} {d : PyData} {ds : List PyData} : denGs (.cons g gs) s (d :: ds) = denG g s d >>= kG1 gs ds := by simp only [denGs]; rfl
@[simp] theorem kG1_eq {gs : Gs} {ds : List PyData} : kG1 gs ds s = denGs gs s ds := rf rfl
/-! statements -/
def kNx (s : Sls) : Oc Res := .ok (.nx s)
@[simp] theorem kNx_eq : kNx s = .ok (.nx s) := rf rfl
def kAs (i : Nat) (p : Sls × PyData) : Oc Res := setS p.1 i (.d p.2) >>= kNx
@[simp] theorem dS_asg {i : Nat} {e : E} : denS tb gi (.asg i e) s = denE tb gi e s >>= kAs i := by simp only [denS]; rfl
@[simp] theorem kAs_eq {i : Nat} {d : PyData} : kAs i (s, d) = setS s i (.d d) >>= kNx := rf rfl
def kAsL (i : Nat) (p : Sls × List PyData) : Oc Res := setS p.1 i (.l p.2) >>= kNx
@[simp] theorem dS_asgL {i : Nat} {l : L} : denS tb gi (.asgL i l) s = denL tb gi l s >>= kAsL i := by simp only [denS]; rfl
@[simp] theorem kAsL_eq {i : Nat} {d : List PyData} : kAsL i (s, d) = setS s i (.l d) >>= kNx := rf rfl
def stLL (tb : List Fk) (gi : List (Str × Int)) (g : G) (l : L) (s : Sls) (d : PyData) : Oc (Sls × List PyData) := denG g s d >>= fun m => denL tb gi l m
def kLL2 (i : Nat) (q : Sls × List (List PyData)) : Oc Res := setS q.1 i (.ll q.2) >>= kNx
def kLL (tb : List Fk) (gi : List (Str × Int)) (i : Nat) (own : List Nat) (g : G) (l : L) (p : Sls × List PyData) : Oc Res := if p.2.length ≤ 100000 ∧ (∀ j ∈ tsG g, j ∈ own) then lcLF own (stLL tb gi g l) p.2 (wipeS p.1 own) >>= kLL2 i else .un
@[simp] theorem dS_asgLL {i : Nat} {own : List Nat} {g : G} {it : I} {l : L} : denS tb gi (.asgLL i own g it l) s = denI tb gi it s >>= kLL tb gi i own g l := by simp only [denS]; rfl
theorem kLL_eq {i : Nat} {own : List Nat} {g : G} {l : L} {xs : List PyData} (h : xs.length ≤ 100000) (h2 : (tsG g).all (own.contains ·) = true) : kLL tb gi i own g l (s, xs) = lcLF own (stLL tb gi g l) xs (wipeS s own) >>= kLL2 i := by
  unfold kLL
  rw [if_pos ⟨h, fun j hj => List.contains_iff_mem.mp (List.all_eq_true.mp h2 j hj)⟩]
@[simp] theorem kLL2_eq {i : Nat} {xs : List (List PyData)} : kLL2 i (s, xs) = setS s i (.ll xs) >>= kNx := rf rfl
def kAsT (g : G) (p : Sls × PyData) : Oc Res := denG g p.1 p.2 >>= kNx
@[simp] theorem dS_asgT {g : G} {e : E} : denS tb gi (.asgT g e) s = denE tb gi e s >>= kAsT g := by simp only [denS]; rfl
@[simp] theorem kAsT_eq {g : G} {d : PyData} : kAsT g (s, d) = denG g s d >>= kNx := rf rfl
def kPar (is : List Nat) (p : Sls × List Sl) : Oc Res := setAll p.1 is p.2 >>= kNx
@[simp] theorem dS_par {is : List Nat} {ms : Ms} : denS tb gi (.par is ms) s = denMs tb gi ms s >>= kPar is := by simp only [denS]; rfl
@[simp] theorem kPar_eq {is : List Nat} {vs : List Sl} : kPar is (s, vs) = setAll s is vs >>= kNx := rf rfl
@[simp] theorem setAll_nil : setAll s [] [] = .ok s := rf rfl
def kSA (is : List Nat) (vs : List Sl) (s : Sls) : Oc Sls := setAll s is vs
@[simp] theorem setAll_cons {i : Nat} {is : List Nat} {v : Sl} {vs : List Sl} : setAll s (i :: is) (v :: vs) = setS s i v >>= kSA is vs := rf rfl
@[simp] theorem kSA_eq {is : List Nat} {vs : List Sl} : kSA is vs s = setAll s is vs := rf rfl
def kMs2 (v : Sl) (q : Sls × List Sl) : Oc (Sls × List Sl) := .ok (q.1, v :: q.2)
@[simp] theorem kMs2_eq {v : Sl} {vs : List Sl} : kMs2 v (s, vs) = .ok (s, v :: vs) := rf rfl
def kMe (tb : List Fk) (gi : List (Str × Int)) (ms : Ms) (p : Sls × PyData) : Oc (Sls × List Sl) := denMs tb gi ms p.1 >>= kMs2 (.d p.2)
def kMl (tb : List Fk) (gi : List (Str × Int)) (ms : Ms) (p : Sls × List PyData) : Oc (Sls × List Sl) := denMs tb gi ms p.1 >>= kMs2 (.l p.2)
@[simp] theorem dMs_nil : denMs tb gi .nil s = .ok (s, []) := by simp only [denMs]
@[simp] theorem dMs_e {e : E} {ms : Ms} : denMs tb gi (.e e ms) s = denE tb gi e s >>= kMe tb gi ms := by simp only [denMs]; rfl
@[simp] theorem dMs_l {e : L} {ms : Ms} : denMs tb gi (.l e ms) s = denL tb gi e s >>= kMl tb gi ms := by simp only [denMs]; rfl
@[simp] theorem dMs_t {ms : Ms} : denMs tb gi (.t ms) s = denMs tb gi ms s >>= kMs2 (.dt []) := by simp only [denMs]; rfl
@[simp] theorem kMe_eq {ms : Ms} {x : PyData} : kMe tb gi ms (s, x) = denMs tb gi ms s >>= kMs2 (.d x) := rf rfl
@[simp] theorem kMl_eq {ms : Ms} {x : List PyData} : kMl tb gi ms (s, x) = denMs tb gi ms s >>= kMs2 (.l x) := rf rfl
def kApp3 (i : Nat) (s : Sls) (x : PyData) (xs : List PyData) : Oc Res := if xs.length ≤ 100000 then .ok (.nx (s.set i (.l (xs ++ [x])))) else .un
def kApp2 (i : Nat) (p : Sls × PyData) : Oc Res := rdL p.1 i >>= kApp3 i p.1 p.2
def kApp1 (tb : List Fk) (gi : List (Str × Int)) (e : E) (i : Nat) (s : Sls) (xs : List PyData) : Oc Res := denE tb gi e s >>= kApp2 i
@[simp] theorem dS_app {i : Nat} {e : E} : denS tb gi (.app i e) s = slL s[i]? >>= kApp1 tb gi e i s := by rw [← rdL_o]; simp only [denS]; rfl
@[simp] theorem kApp1_eq {i : Nat} {e : E} {xs : List PyData} : kApp1 tb gi e i s xs = denE tb gi e s >>= kApp2 i := rf rfl
@[simp] theorem kApp2_eq {i : Nat} {x : PyData} : kApp2 i (s, x) = slL s[i]? >>= kApp3 i s x := by rw [← rdL_o]; rfl
@[simp] theorem kApp3_eq {i : Nat} {x : PyData} {xs : List PyData} : kApp3 i s x xs = if xs.length ≤ 100000 then .ok (.nx (s.set i (.l (xs ++ [x])))) else .un := rf rfl
def kExt3 (i : Nat) (s : Sls) (x : PyData) (xs : List PyData) : Oc Res := seqD x >>= fun zs => if xs.length + zs.length ≤ 100000 then .ok (.nx (s.set i (.l (xs ++ zs)))) else .un
def kExt2 (i : Nat) (p : Sls × PyData) : Oc Res := rdL p.1 i >>= kExt3 i p.1 p.2
def kExt1 (tb : List Fk) (gi : List (Str × Int)) (e : E) (i : Nat) (s : Sls) (xs : List PyData) : Oc Res := denE tb gi e s >>= kExt2 i
@[simp] theorem dS_ext {i : Nat} {e : E} : denS tb gi (.ext i e) s = slL s[i]? >>= kExt1 tb gi e i s := by rw [← rdL_o]; simp only [denS]; rfl
@[simp] theorem kExt1_eq {i : Nat} {e : E} {xs : List PyData} : kExt1 tb gi e i s xs = denE tb gi e s >>= kExt2 i := rf rfl
@[simp] theorem kExt2_eq {i : Nat} {x : PyData} : kExt2 i (s, x) = slL s[i]? >>= kExt3 i s x := by rw [← rdL_o]; rfl
@[simp] theorem kExt3_t {i : Nat} {zs : List PyData} {xs : List PyData} : kExt3 i s (.tuple zs) xs = if xs.length + zs.length ≤ 100000 then .ok (.nx (s.set i (.l (xs ++ zs)))) else .un := rf rfl
@[simp] theorem kExt3_l {i : Nat} {zs : List PyData} {xs : List PyData} : kExt3 i s (.list zs) xs = if xs.length + zs.length ≤ 100000 then .ok (.nx (s.set i (.l (xs ++ zs)))) else .un := rf rfl
def kPop4 (s : Sls) (j : Nat) (d : PyData) : Oc Res := setS s j (.d d) >>= kNx
@[simp] theorem kPop4_eq {j : Nat} {d : PyData} : kPop4 s j d = setS s j (.d d) >>= kNx := rf rfl
def kPop3 (j i : Nat) (s : Sls) (x : PyData) (xs : List PyData) : Oc Res := intD x >>= fun k => if 0 ≤ k ∧ xs.length ≤ 100000 then ofO xs[k.toNat]? >>= kPop4 (s.set i (.l (xs.eraseIdx k.toNat))) j else .un
def kPop2 (j i : Nat) (p : Sls × PyData) : Oc Res := rdL p.1 i >>= kPop3 j i p.1 p.2
def kPop1 (tb : List Fk) (gi : List (Str × Int)) (e : E) (j i : Nat) (s : Sls) (xs : List PyData) : Oc Res := denE tb gi e s >>= kPop2 j i
@[simp] theorem dS_popAt {j i : Nat} {e : E} : denS tb gi (.popAt j i e) s = slL s[i]? >>= kPop1 tb gi e j i s := by rw [← rdL_o]; simp only [denS]; rfl
@[simp] theorem kPop1_eq {j i : Nat} {e : E} {xs : List PyData} : kPop1 tb gi e j i s xs = denE tb gi e s >>= kPop2 j i := rf rfl
@[simp] theorem kPop2_eq {j i : Nat} {x : PyData} : kPop2 j i (s, x) = slL s[i]? >>= kPop3 j i s x := by rw [← rdL_o]; rfl
@[simp] theorem kPop3_eq {j i : Nat} {k : Int} {xs : List PyData} : kPop3 j i s (.int k) xs = if 0 ≤ k ∧ xs.length ≤ 100000 then ofO xs[k.toNat]? >>= kPop4 (s.set i (.l (xs.eraseIdx k.toNat))) j else .un := rf rfl
def kRet (p : Sls × PyData) : Oc Res := .ok (.ret p.1 p.2)
@[simp] theorem dS_ret {e : E} : denS tb gi (.ret e) s = denE tb gi e s >>= kRet := by simp only [denS]; rfl
@[simp] theorem kRet_eq {x : PyData} : kRet (s, x) = .ok (.ret s x) := rf rfl
@[simp] theorem dS_ret0 : denS tb gi .ret0 s = .ok (.ret s .none) := by simp only [denS]
def kIfe (tb : List Fk) (gi : List (Str × Int)) (a b : Ss) (p : Sls × Bool) : Oc Res := match p.2 with
    | true => denSs tb gi a p.1
    | false => denSs tb gi b p.1
@[simp] theorem dS_ife {t : T} {a b : Ss} : denS tb gi (.ife t a b) s = denT tb gi t s >>= kIfe tb gi a b := by
  simp only [denS]; congr 1
@[simp] theorem kIfe_t {a b : Ss} : kIfe tb gi a b (s, true) = denSs tb gi a s := rf rfl
@[simp] theorem kIfe_f {a b : Ss} : kIfe tb gi a b (s, false) = denSs tb gi b s := rf rfl
theorem kIfe_ite {a b : Ss} {c : Bool} : kIfe tb gi a b (s, c) = if c = true then denSs tb gi a s else denSs tb gi b s := by cases c <;> rfl
def stF (tb : List Fk) (gi : List (Str × Int)) (g : G) (b : Ss) (s : Sls) (d : PyData) : Oc Res := denG g s d >>= fun m => denSs tb gi b m
def kFor (tb : List Fk) (gi : List (Str × Int)) (g : G) (b : Ss) (p : Sls × List PyData) : Oc Res := forF (stF tb gi g b) p.2 p.1
@[simp] theorem dS_for {g : G} {it : I} {b : Ss} : denS tb gi (.for_ g it b) s = denI tb gi it s >>= kFor tb gi g b := by simp only [denS]; rfl
@[simp] theorem kFor_eq {g : G} {b : Ss} {xs : List PyData} : kFor tb gi g b (s, xs) = forF (stF tb gi g b) xs s := rf rfl
def stW (tb : List Fk) (gi : List (Str × Int)) (b : Ss) (s : Sls) : Oc Res := denSs tb gi b s
def tsW (tb : List Fk) (gi : List (Str × Int)) (t : T) (s : Sls) : Oc (Sls × Bool) := denT tb gi t s
@[simp] theorem dS_whl {t : T} {b : Ss} : denS tb gi (.whl t b) s = whlF (tsW tb gi t) (stW tb gi b) s := by simp only [denS]; rfl
def kEx (p : Sls × PyData) : Oc Res := .ok (.nx p.1)
@[simp] theorem dS_ex {e : E} : denS tb gi (.ex e) s = denE tb gi e s >>= kEx := by simp only [denS]; rfl
@[simp] theorem kEx_eq {x : PyData} : kEx (s, x) = .ok (.nx s) := rf rfl
def kPk2 (i : Nat) (k : Str) (s : Sls) (x : PyData) (w : Option Addr × List (Key × PyData)) : Oc Res := if w.2.length ≤ 1000 then .ok (.nx (s.set i (.dk w.1 (putD w.2 (Sum.inr k) x)))) else .un
def kPk (i : Nat) (k : Str) (p : Sls × PyData) : Oc Res := rdK p.1 i >>= kPk2 i k p.1 p.2
@[simp] theorem dS_putK {i : Nat} {k : Str} {e : E} : denS tb gi (.putK i k e) s = denE tb gi e s >>= kPk i k := by simp only [denS]; rfl
@[simp] theorem kPk_eq {i : Nat} {k : Str} {x : PyData} : kPk i k (s, x) = slK s[i]? >>= kPk2 i k s x := by rw [← rdK_o]; rfl
@[simp] theorem kPk2_eq {i : Nat} {k : Str} {x : PyData} {o : Option Addr} {kvs : List (Key × PyData)} : kPk2 i k s x (o, kvs) = if kvs.length ≤ 1000 then .ok (.nx (s.set i (.dk o (putD kvs (Sum.inr k) x)))) else .un := rf rfl
def kPt3 (i : Nat) (s : Sls) (x : PyData) (ks : List Key) (w : List (List Key × PyData)) : Oc Res := if w.length ≤ 1000 then .ok (.nx (s.set i (.dt (putD w ks x)))) else .un
def kPt2 (i : Nat) (x : PyData) (q : Sls × PyData) : Oc Res := ofO (tkeyOf q.2) >>= fun ks => rdT q.1 i >>= kPt3 i q.1 x ks
def kPt1 (tb : List Fk) (gi : List (Str × Int)) (i : Nat) (k : E) (s : Sls) (x : PyData) (_ : List (List Key × PyData)) : Oc Res := denE tb gi k s >>= kPt2 i x
def kPt0 (tb : List Fk) (gi : List (Str × Int)) (i : Nat) (k : E) (p : Sls × PyData) : Oc Res := rdT p.1 i >>= kPt1 tb gi i k p.1 p.2
@[simp] theorem dS_putT {i : Nat} {k e : E} : denS tb gi (.putT i k e) s = denE tb gi e s >>= kPt0 tb gi i k := by simp only [denS]; rfl
@[simp] theorem kPt0_eq {i : Nat} {k : E} {x : PyData} : kPt0 tb gi i k (s, x) = slT s[i]? >>= kPt1 tb gi i k s x := by rw [← rdT_o]; rfl
@[simp] theorem kPt1_eq {i : Nat} {k : E} {x : PyData} {w : List (List Key × PyData)} : kPt1 tb gi i k s x w = denE tb gi k s >>= kPt2 i x := rf rfl
@[simp] theorem kPt2_eq {i : Nat} {x y : PyData} : kPt2 i x (s, y) = ofO (tkeyOf y) >>= fun ks => slT s[i]? >>= kPt3 i s x ks := by rw [← rdT_o]; rfl
@[simp] theorem kPt3_eq {i : Nat} {x : PyData} {ks : List Key} {w : List (List Key × PyData)} : kPt3 i s x ks w = if w.length ≤ 1000 then .ok (.nx (s.set i (.dt (putD w ks x)))) else .un := rf rfl
@[simp] theorem dS_newT {i : Nat} : denS tb gi (.newT i) s = setS s i (.dt []) >>= kNx := by simp only [denS]; rfl
def tbK : Option Fk → List PyData → Oc (List (Key × PyData))
  | some (.kk f), ds => f ds
  | _, _ => .un
@[simp] theorem tbK_k {f : List PyData → Oc (List (Key × PyData))} {ds : List PyData} : tbK (some (.kk f)) ds = f ds := rf rfl
theorem callKD_eq {k : Nat} {ds : List PyData} : callKD tb k ds = tbK tb[k]? ds := by unfold callKD tbK; split <;> simp_all
def kAK2 (i : Nat) (s : Sls) (kvs : List (Key × PyData)) : Oc Res := setS s i (.dk none kvs) >>= kNx
@[simp] theorem kAK2_eq {i : Nat} {kvs : List (Key × PyData)} : kAK2 i s kvs = setS s i (.dk none kvs) >>= kNx := rf rfl
def kAK (tb : List Fk) (i k : Nat) (p : Sls × List PyData) : Oc Res := (callKD tb k p.2).here p.1 >>= kAK2 i p.1
@[simp] theorem dS_asgK {i k : Nat} {es : Es} : denS tb gi (.asgK i k es) s = denEs tb gi es s >>= kAK tb i k := by simp only [denS]; rfl
@[simp] theorem kAK_eq {i k : Nat} {ds : List PyData} : kAK tb i k (s, ds) = (tbK tb[k]? ds).here s >>= kAK2 i s := by rw [← callKD_eq]; rfl
def kSt4 (i : Nat) (s : Sls) (d : PyData) (m n : Int) (xss : List (List PyData)) : Oc Res := if 0 ≤ m ∧ 0 ≤ n then ofO xss[m.toNat]? >>= fun xs => if n.toNat < xs.length then .ok (.nx (s.set i (.ll (xss.set m.toNat (xs.set n.toNat d))))) else .un else .un
def kSt (i : Nat) (w p : E) (r : Sls × PyData) : Oc Res := rdLL r.1 i >>= fun xss => denQ r.1 w >>= fun a => denQ r.1 p >>= fun b => intD a >>= fun m => intD b >>= fun n => kSt4 i r.1 r.2 m n xss
@[simp] theorem dS_setLL {i : Nat} {w p e : E} : denS tb gi (.setLL i w p e) s = denE tb gi e s >>= kSt i w p := by simp only [denS]; rfl
@[simp] theorem kSt_eq {i : Nat} {w p : E} {x : PyData} : kSt i w p (s, x) = slLL s[i]? >>= fun xss => denQ s w >>= fun a => denQ s p >>= fun b => intD a >>= fun m => intD b >>= fun n => kSt4 i s x m n xss := by rw [← rdLL_o]; rfl
theorem kSt4_eq {i : Nat} {d : PyData} {m n : Nat} {xss : List (List PyData)} {xs : List PyData} (h : xss[m]? = some xs) (h2 : n < xs.length) : kSt4 i s d (m : Int) (n : Int) xss = .ok (.nx (s.set i (.ll (xss.set m (xs.set n d))))) := by
  unfold kSt4
  rw [if_pos ⟨by omega, by omega⟩, Int.toNat_natCast, Int.toNat_natCast, h]
  show (if n < xs.length then _ else _) = _
  rw [if_pos h2]
def quO : Option Sl → Oc PyData
  | some (.d d) => .ok d
  | _ => .un
@[simp] theorem dQ_var {i : Nat} : denQ s (.var i) = quO s[i]? := by
  unfold denQ quO
  cases h : s[i]? with
  | none => rfl
  | some v => cases v <;> rfl
@[simp] theorem quO_d {d : PyData} : quO (some (.d d)) = .ok d := rf rfl
@[simp] theorem dQ_int {n : Int} : denQ s (.int n) = .ok (.int n) := by simp only [denQ]
@[simp] theorem dS_try {b : Ss} : denS tb gi (.tryT b) s = denSs tb gi b s := by simp only [denS]
@[simp] theorem dS_pass : denS tb gi .pass s = .ok (.nx s) := by simp only [denS]
def kSs (tb : List Fk) (gi : List (Str × Int)) (ss : Ss) : Res → Oc Res
  | .nx s1 => denSs tb gi ss s1
  | .ret s1 z => .ok (.ret s1 z)
@[simp] theorem dSs_nil : denSs tb gi .nil s = .ok (.nx s) := by simp only [denSs]
@[simp] theorem dSs_cons {st : S} {ss : Ss} : denSs tb gi (.cons st ss) s = denS tb gi st s >>= kSs tb gi ss := by
  simp only [denSs]; congr 1; all_goals (funext r; cases r <;> rfl)
@[simp] theorem stE_eq {g : G} {elt : E} {d : PyData} : stE tb gi g elt s d = denG g s d >>= denE tb gi elt := rf rfl
@[simp] theorem stLL_eq {g : G} {l : L} {d : PyData} : stLL tb gi g l s d = denG g s d >>= denL tb gi l := rf rfl
@[simp] theorem stF_eq {g : G} {b : Ss} {d : PyData} : stF tb gi g b s d = denG g s d >>= denSs tb gi b := rf rfl
@[simp] theorem stW_eq {b : Ss} : stW tb gi b s = denSs tb gi b s := rf rfl
@[simp] theorem tsW_eq {t : T} : tsW tb gi t s = denT tb gi t s := rf rfl
def kLf2 (q : Sls × PyData) : Oc (Sls × Option PyData) := .ok (q.1, some q.2)
@[simp] theorem kLf2_eq {x : PyData} : kLf2 (s, x) = .ok (s, some x) := rf rfl
@[simp] theorem kLfB_t {elt : E} : kLfB tb gi elt (s, true) = denE tb gi elt s >>= kLf2 := rf rfl
@[simp] theorem kLfB_f {elt : E} : kLfB tb gi elt (s, false) = .ok (s, none) := rf rfl
def kStI (tb : List Fk) (gi : List (Str × Int)) (c : T) (elt : E) (m : Sls) : Oc (Sls × Option PyData) := denT tb gi c m >>= kLfB tb gi elt
@[simp] theorem kStI_eq {c : T} {elt : E} : kStI tb gi c elt s = denT tb gi c s >>= kLfB tb gi elt := rf rfl
@[simp] theorem stEI_eq {g : G} {c : T} {elt : E} {d : PyData} : stEI tb gi g c elt s d = denG g s d >>= kStI tb gi c elt := rf rfl
@[simp] theorem kSs_nx {ss : Ss} : kSs tb gi ss (.nx s) = denSs tb gi ss s := rf rfl
@[simp] theorem kSs_ret {ss : Ss} {z : PyData} : kSs tb gi ss (.ret s z) = .ok (.ret s z) := rf rfl
end
/-! ### operations -/
section
variable {i j : Int} {xs ys : List PyData}
@[simp] theorem bo_add : binD .add (.int i) (.int j) = .ok (.int (i + j)) := rf rfl
@[simp] theorem bo_sub : binD .sub (.int i) (.int j) = .ok (.int (i - j)) := rf rfl
theorem log_lt {n : Nat} {k : Nat} (hk : 0 < k) (h : n < 2 ^ k) : n.log2 < k := by
  by_cases hn : n = 0
  · subst hn; simpa using hk
  · exact (Nat.log2_lt hn).mpr h
/-- small -/
def Sm (i : Int) : Prop := i.natAbs.log2 < 100000
theorem sm_of {i : Int} {k : Nat} (h : i.natAbs < 2 ^ k) (hk : k ≤ 99999 := by omega) : Sm i := by
  unfold Sm
  have : i.natAbs.log2 < k + 1 := log_lt (by omega) (Nat.lt_of_lt_of_le h (Nat.pow_le_pow_right (by decide) (by omega)))
  omega
theorem bo_mul (h : Sm i) (h' : Sm j) : binD .mul (.int i) (.int j) = .ok (.int (i * j)) := by
  unfold Sm at h h'
  exact if_pos (by omega)
theorem bo_fdiv (h : 0 < j) (h' : j.natAbs.log2 < 9000) : binD .fdiv (.int i) (.int j) = .ok (.int (i / j)) := if_pos ⟨h, h'⟩
theorem bo_mod (h : 0 < j) : binD .mod (.int i) (.int j) = .ok (.int (i % j)) := if_pos h
theorem bo_pow (h : 0 ≤ j ∧ j ≤ 1000 ∧ i.natAbs < 2 ^ 64) : binD .pow (.int i) (.int j) = .ok (.int (i ^ j.toNat)) := if_pos h
theorem bo_addT (h : xs.length + ys.length ≤ 100000) : binD .add (.tuple xs) (.tuple ys) = .ok (.tuple (xs ++ ys)) := if_pos h
theorem co_eq {d e : PyData} (h : SeqAt.shaped d = true) (h' : SeqAt.shaped e = true) : cmpD .eq d e = .ok (PyData.eqv d e) := by
  unfold cmpD; exact if_pos (And.intro h h')
theorem co_ne {d e : PyData} (h : SeqAt.shaped d = true) (h' : SeqAt.shaped e = true) : cmpD .ne d e = .ok (!PyData.eqv d e) := by
  unfold cmpD; exact if_pos (And.intro h h')
theorem shd_int : SeqAt.shaped (.int i) = true := by simp [SeqAt.shaped, PyData.canLay0, PyData.depth]
@[simp] theorem co_eqI : cmpD .eq (.int i) (.int j) = .ok (decide (i = j)) := by
  rw [co_eq shd_int shd_int]
  congr 1
@[simp] theorem co_neI : cmpD .ne (.int i) (.int j) = .ok (decide (i ≠ j)) := by
  rw [co_ne shd_int shd_int]
  show Oc.ok (!(i == j)) = _
  congr 1
  by_cases h : i = j <;> simp [h]
@[simp] theorem co_lt : cmpD .lt (.int i) (.int j) = .ok (decide (i < j)) := rf rfl
@[simp] theorem co_le : cmpD .le (.int i) (.int j) = .ok (decide (i ≤ j)) := rf rfl
@[simp] theorem co_gt : cmpD .gt (.int i) (.int j) = .ok (decide (j < i)) := rf rfl
@[simp] theorem co_ge : cmpD .ge (.int i) (.int j) = .ok (decide (j ≤ i)) := rf rfl
@[simp] theorem no_int : negD (.int i) = .ok (.int (-i)) := rf rfl
@[simp] theorem iD_i : intD (.int i) = .ok i := rf rfl
@[simp] theorem lD_l : listD (.list xs) = .ok xs := rf rfl
@[simp] theorem tD_t : tupD (.tuple xs) = .ok xs := rf rfl
@[simp] theorem sD_l : seqD (.list xs) = .ok xs := rf rfl
@[simp] theorem sD_t : seqD (.tuple xs) = .ok xs := rf rfl
@[simp] theorem bD_b {b : Bool} : boolD (.bool b) = .ok b := rf rfl
@[simp] theorem ix_l : ixD (.list xs) (.int i) = ofO (atI xs i) := rf rfl
@[simp] theorem ix_t : ixD (.tuple xs) (.int i) = ofO (atI xs i) := rf rfl
@[simp] theorem lo_l : lenD (.list xs) = .ok (.int xs.length) := rf rfl
@[simp] theorem lo_t : lenD (.tuple xs) = .ok (.int xs.length) := rf rfl
@[simp] theorem bi_len {d : PyData} : biD .len [d] = lenD d := rf rfl
theorem intsD_map : ∀ is : List Int, intsD (is.map .int) = .ok is
  | [] => rfl
  | i :: is => by
    show (intD (.int i) >>= fun i => intsD (is.map .int) >>= fun is => .ok (i :: is)) = _
    rw [intsD_map is]; rfl
@[simp] theorem bi_sumT {is : List Int} : biD .sum [.tuple (is.map .int)] = .ok (.int is.sum) := by
  show (intsD (is.map .int) >>= fun is => Oc.ok (PyData.int is.sum)) = _
  rw [intsD_map]; rfl
@[simp] theorem bi_sumL {is : List Int} : biD .sum [.list (is.map .int)] = .ok (.int is.sum) := by
  show (intsD (is.map .int) >>= fun is => Oc.ok (PyData.int is.sum)) = _
  rw [intsD_map]; rfl
@[simp] theorem bi_abs : biD .abs [.int i] = .ok (.int (if i < 0 then -i else i)) := rf rfl
@[simp] theorem bi_intB {b : Bool} : biD .int [.bool b] = .ok (.int (if b = true then 1 else 0)) := rf rfl
@[simp] theorem bi_intI : biD .int [.int i] = .ok (.int i) := rf rfl
@[simp] theorem bi_gcd : biD .gcd [.int i, .int j] = .ok (.int ((Nat.gcd i.natAbs j.natAbs : Nat) : Int)) := rf rfl
theorem bi_lcm (h : lcmOk i j) : biD .lcm [.int i, .int j] = .ok (.int ((Nat.lcm i.natAbs j.natAbs : Nat) : Int)) := if_pos h
@[simp] theorem bi_min3 {a b c : Int} : biD .min [.int a, .int b, .int c] = .ok (.int (min a (min b c))) := rf rfl
@[simp] theorem bi_tupL : biD .tuple [.list xs] = .ok (.tuple xs) := rf rfl
@[simp] theorem bi_tupT : biD .tuple [.tuple xs] = .ok (.tuple xs) := rf rfl
@[simp] theorem bl_listL : blD .list [.list xs] = .ok xs := rf rfl
@[simp] theorem bl_listT : blD .list [.tuple xs] = .ok xs := rf rfl
theorem bl_sortedL (h : PySem.W.AllAlike xs) (h2 : PySem.W.Sortable xs) (h3 : ∀ d ∈ xs, d.depth ≤ 8) : blD .sorted [.list xs] = .ok (srtD xs) := if_pos ⟨h, h2, h3⟩
theorem bl_sortedT (h : PySem.W.AllAlike xs) (h2 : PySem.W.Sortable xs) (h3 : ∀ d ∈ xs, d.depth ≤ 8) : blD .sorted [.tuple xs] = .ok (srtD xs) := if_pos ⟨h, h2, h3⟩
theorem bi_min2 {x y : PyData} (h : PySem.W.AlikeAll [x, y]) (h2 : PyData.depthAll [x, y] ≤ 8) : biD .min [x, y] = .ok (if PySem.W.dataLt y x = true then y else x) := by
  unfold biD; exact if_pos (And.intro h h2)
theorem bi_max2 {x y : PyData} (h : PySem.W.AlikeAll [x, y]) (h2 : PyData.depthAll [x, y] ≤ 8) : biD .max [x, y] = .ok (if PySem.W.dataLt x y = true then y else x) := by
  unfold biD; exact if_pos (And.intro h h2)
theorem bi_repr {d : PyData} (h : isSeqD d = true ∧ d.showable = true ∧ d.hasDict = false ∧ d.depth ≤ 8 ∧ d.shown.length ≤ sizeLine) : biD .repr [d] = .ok (.str d.shown) := by
  unfold biD; exact if_pos h
end
/-! ### whole defs -/
section
variable {tb : List Fk} {gi : List (Str × Int)} {n p : Nat} {body : Ss} {ds : List PyData}
def kOut : Oc Res → Oc PyData
  | .ok (.ret _ z) => .ok z
  | .ok (.nx _) => .ok .none
  | .ex _ x => .ex [] x
  | .un => .un
@[simp] theorem outD_ret {s : Sls} {z : PyData} : outD (.ok (.ret s z)) = .ok z := rf rfl
@[simp] theorem outD_nx {s : Sls} : outD (.ok (.nx s)) = .ok .none := rf rfl
theorem runD_eq (h : ds.length = p) : runD tb gi n p body ds = outD (denSs tb gi body (ds.map Sl.d ++ List.replicate (n - ds.length) Sl.x)) := if_pos h
theorem runD_go {r : Oc PyData} (h : ds.length = p) (h2 : outD (denSs tb gi body (ds.map Sl.d ++ List.replicate (n - ds.length) Sl.x)) = r) : runD tb gi n p body ds = r := (runD_eq h).trans h2
theorem runK_eq {k1 k2 k3 : Str} {es : Es} {s : Sls} {x y z : PyData} (h : ds.length = p) (h2 : denEs tb gi es (ds.map Sl.d ++ List.replicate (n - ds.length) Sl.x) = .ok (s, [x, y, z])) : runK tb gi n p k1 k2 k3 es ds = .ok [(Sum.inr k1, x), (Sum.inr k2, y), (Sum.inr k3, z)] := by
  unfold runK
  rw [if_pos h, h2]; rfl
/-- a def that changes its first argument: promised wherever that stands -/
def RetS (a : Addr) (kvs : List (Key × PyData)) (z : PyData) (x : Oc Res) : Prop := ∃ rest, x = .ok (.ret (.dk (some a) kvs :: rest) z)
@[simp] theorem RetS_ok {a : Addr} {kvs kvs' : List (Key × PyData)} {z z' : PyData} {rest : Sls} : RetS a kvs z (.ok (.ret (.dk (some a) kvs' :: rest) z')) ↔ kvs' = kvs ∧ z' = z := by
  constructor
  · rintro ⟨r, e⟩; injection e with e; injection e with e1 e2; injection e1 with e3 e4; injection e3 with _ e5; exact ⟨e5, e2⟩
  · rintro ⟨rfl, rfl⟩; exact ⟨_, rfl⟩
theorem allP_ret {kvs kvs' : List (Key × PyData)} {z : PyData} (h : ds.length + 1 = p)
    (h2 : ∀ a : Addr, RetS a kvs' z (denSs tb gi body (.dk (some a) kvs :: (ds.map Sl.d ++ List.replicate (n - (ds.length + 1)) Sl.x)))) : allP (runS tb gi n p body) kvs ds = .ok (kvs', z) := by
  refine atAll_ok fun a => ?_
  obtain ⟨r, e⟩ := h2 a
  unfold runS
  rw [if_pos ⟨h, by rw [e]; simp [isP, isP0]⟩, e]
  rfl
theorem forF_nil {step : Sls → PyData → Oc Res} {s : Sls} : forF step [] s = .ok (.nx s) := rfl
/-- a walk that isn't left: by what the slots are ahead of each thing -/
theorem forF_to {step : Sls → PyData → Oc Res} (S : Nat → Sls) : ∀ {items : List PyData} (k : Nat), (∀ i d, items[i]? = some d → step (S (k + i)) d = .ok (.nx (S (k + i + 1)))) → forF step items (S k) = .ok (.nx (S (k + items.length)))
  | [], k, _ => rfl
  | d :: ds, k, h => by
    show (step (S k) d >>= _) = _
    rw [show step (S k) d = _ from h 0 d rfl]
    show forF step ds (S (k + 1)) = _
    rw [forF_to S (k + 1) (fun i d' hi => by have := h (i + 1) d' (by simpa using hi); rw [show k + (i + 1) = k + 1 + i by omega] at this; exact this)]
    rw [List.length_cons, show k + 1 + ds.length = k + (ds.length + 1) by omega]
theorem forF_inv {step : Sls → PyData → Oc Res} {items : List PyData} {s : Sls} (S : Nat → Sls) (h0 : s = S 0) (h : ∀ i d, items[i]? = some d → step (S i) d = .ok (.nx (S (i + 1)))) : forF step items s = .ok (.nx (S items.length)) := by
  subst h0
  have := forF_to S (items := items) (step := step) 0 fun i d hi => by simpa using h i d hi
  simpa using this
/-- by what stands behind each thing, whatever it is -/
theorem forF_P {step : Sls → PyData → Oc Res} {P : Nat → Sls → Prop} : ∀ {items : List PyData} {k : Nat} {s : Sls}, P k s → (∀ i d s, items[i]? = some d → P (k + i) s → ∃ s', step s d = .ok (.nx s') ∧ P (k + i + 1) s') → ∃ s', forF step items s = .ok (.nx s') ∧ P (k + items.length) s'
  | [], k, s, h0, _ => ⟨s, rfl, h0⟩
  | d :: ds, k, s, h0, h => by
    obtain ⟨s1, h1, h2⟩ := h 0 d s rfl h0
    obtain ⟨s2, h3, h4⟩ := forF_P (items := ds) (k := k + 1) h2 fun i d' s' hi hp => by
      have := h (i + 1) d' s' (by simpa using hi) (by rw [show k + (i + 1) = k + 1 + i by omega]; exact hp)
      rw [show k + (i + 1) = k + 1 + i by omega] at this
      exact this
    refine ⟨s2, ?_, by rw [List.length_cons, show k + (ds.length + 1) = k + 1 + ds.length by omega]; exact h4⟩
    show (step s d >>= _) = _
    rw [h1]; exact h3
theorem b_as {α β γ : Type} {x : Oc α} {f : α → Oc β} {g : β → Oc γ} : ((x >>= f) >>= g) = (x >>= fun a => f a >>= g) := by cases x <;> rfl
/-- the same, with slots of the walk's own that may hold anything -/
theorem forF_ex {τ : Type} {step : Sls → PyData → Oc Res} (S : Nat → τ → Sls) : ∀ {items : List PyData} (k : Nat) (t : τ), (∀ i d t, items[i]? = some d → ∃ t', step (S (k + i) t) d = .ok (.nx (S (k + i + 1) t'))) → ∃ t', forF step items (S k t) = .ok (.nx (S (k + items.length) t'))
  | [], k, t, _ => ⟨t, rfl⟩
  | d :: ds, k, t, h => by
    obtain ⟨t1, h1⟩ := h 0 d t rfl
    obtain ⟨t2, h2⟩ := forF_ex S (items := ds) (k + 1) t1 fun i d' t' hi => by
      have := h (i + 1) d' t' (by simpa using hi)
      rw [show k + (i + 1) = k + 1 + i by omega] at this
      exact this
    refine ⟨t2, ?_⟩
    show (step (S k t) d >>= _) = _
    rw [show step (S k t) d = _ from h1]
    show forF step ds (S (k + 1) t1) = _
    rw [h2, List.length_cons, show k + 1 + ds.length = k + (ds.length + 1) by omega]
theorem for_go {τ β : Type} {step : Sls → PyData → Oc Res} {items : List PyData} {s : Sls} {k : Res → Oc β} {r : Oc β} (S : Nat → τ → Sls) (t : τ) (h0 : s = S 0 t) (h : ∀ i d t, items[i]? = some d → ∃ t', step (S i t) d = .ok (.nx (S (i + 1) t'))) (hk : ∀ t, k (.nx (S items.length t)) = r) : (forF step items s >>= k) = r := by
  subst h0
  obtain ⟨t', e⟩ := forF_ex S (items := items) (step := step) 0 t fun i d t hi => by simpa using h i d t hi
  rw [e]
  simpa using hk t'
theorem for_goP {τ : Type} {step : Sls → PyData → Oc Res} {items : List PyData} {s : Sls} {k : Res → Oc Res} (P : Oc Res → Prop) (S : Nat → τ → Sls) (t : τ) (h0 : s = S 0 t) (h : ∀ i d t, items[i]? = some d → ∃ t', step (S i t) d = .ok (.nx (S (i + 1) t'))) (hk : ∀ t, P (k (.nx (S items.length t)))) : P (forF step items s >>= k) := by
  subst h0
  obtain ⟨t', e⟩ := forF_ex S (items := items) (step := step) 0 t fun i d t hi => by simpa using h i d t hi
  rw [e]
  simpa using hk t'
theorem for_goS {τ : Type} {step : Sls → PyData → Oc Res} {items : List PyData} {s : Sls} {k : Res → Oc Res} {a : Addr} {kvs : List (Key × PyData)} {z : PyData} (S : Nat → τ → Sls) (t : τ) (h0 : s = S 0 t) (h : ∀ i d t, items[i]? = some d → ∃ t', step (S i t) d = .ok (.nx (S (i + 1) t'))) (hk : ∀ t, RetS a kvs z (k (.nx (S items.length t)))) : RetS a kvs z (forF step items s >>= k) := by
  subst h0
  obtain ⟨t', e⟩ := forF_ex S (items := items) (step := step) 0 t fun i d t hi => by simpa using h i d t hi
  rw [e]
  simpa using hk t'
theorem for_goD {τ : Type} {step : Sls → PyData → Oc Res} {items : List PyData} {s : Sls} {k : Res → Oc Res} {r : Oc PyData} (S : Nat → τ → Sls) (t : τ) (h0 : s = S 0 t) (h : ∀ i d t, items[i]? = some d → ∃ t', step (S i t) d = .ok (.nx (S (i + 1) t'))) (hk : ∀ t, outD (k (.nx (S items.length t))) = r) : outD (forF step items s >>= k) = r := by
  subst h0
  obtain ⟨t', e⟩ := forF_ex S (items := items) (step := step) 0 t fun i d t hi => by simpa using h i d t hi
  rw [e]
  simpa using hk t'
theorem rng_item {n i : Nat} {d : PyData} (h : (rngD 0 n)[i]? = some d) : i < n ∧ d = .int (i : Nat) := by
  have hi : i < n := by
    have := (List.getElem?_eq_some_iff.mp h).1
    rwa [rngD_len] at this
  rw [rngD_get hi] at h
  refine ⟨hi, ?_⟩
  have := Option.some.inj h
  rw [← this, Int.zero_add]
@[simp] theorem rl_eq {lo : Int} {n : Nat} : (rngD lo n).length = n := rngD_len
@[simp] theorem wipe_nil {s : Sls} : wipeS s [] = s := rf rfl
@[simp] theorem wipe_cons {s : Sls} {v : Nat} {vs : List Nat} : wipeS s (v :: vs) = (wipeS s vs).set v .x := rf rfl
@[simp] theorem enum_len {xs : List PyData} : (enumD 0 xs).length = xs.length := enumD_len
@[simp] theorem zip_len {xs ys : List PyData} : (zipD xs ys).length = min xs.length ys.length := zipD_len
/-- one element of a comprehension: the slots of its own are let go -/
def kW {β : Type} (own : List Nat) (p : Sls × β) : Oc (Sls × β) := .ok (wipeS p.1 own, p.2)
@[simp] theorem kW_eq {β : Type} {own : List Nat} {s : Sls} {x : β} : kW own (s, x) = .ok (wipeS s own, x) := rf rfl
theorem kW_of {β : Type} {own : List Nat} {x : Oc (Sls × β)} {s : Sls} {z : β} (h : (x >>= kW own) = .ok (s, z)) : ∃ m, x = .ok (m, z) ∧ wipeS m own = s := by
  obtain ⟨⟨m, z'⟩, e1, e2⟩ := Oc.bind_eq_ok h
  simp only [kW_eq] at e2
  injection e2 with e2
  injection e2 with e3 e4
  subst e4
  exact ⟨m, e1, e3⟩
/-- a comprehension whose elements leave the slots as they were -/
theorem lcF_map {own : List Nat} {step : Sls → PyData → Oc (Sls × PyData)} {s : Sls} {α : Type} {e : α → PyData} (f : α → PyData) {as : List α} (h : ∀ a ∈ as, (step s (e a) >>= kW own) = .ok (s, f a)) : lcF own step (as.map e) s = .ok (s, as.map f) := by
  induction as with
  | nil => rfl
  | cons a as ih =>
    obtain ⟨m, h1, h2⟩ := kW_of (h a List.mem_cons_self)
    show (step s (e a) >>= _) = _
    rw [h1]
    show (lcF own step (as.map e) (wipeS m own) >>= _) = _
    rw [h2, ih fun d hd => h d (List.mem_cons_of_mem _ hd)]
    rfl
theorem lcF_rng {own : List Nat} {step : Sls → PyData → Oc (Sls × PyData)} {s : Sls} {n : Nat} (f : Nat → PyData) (h : ∀ i, i < n → (step s (.int (i : Nat)) >>= kW own) = .ok (s, f i)) : lcF own step (rngD 0 n) s = .ok (s, (List.range n).map f) := by
  unfold rngD
  refine lcF_map (e := fun i : Nat => .int (0 + (i : Nat))) f fun i hi => ?_
  rw [Int.zero_add]
  exact h i (List.mem_range.mp hi)
/-- by what the slots are ahead of each thing -/
theorem lcF_to {own : List Nat} {step : Sls → PyData → Oc (Sls × PyData)} (S : Nat → Sls) (out : Nat → PyData) : ∀ {items : List PyData} (k : Nat), (∀ i d, items[i]? = some d → (step (S (k + i)) d >>= kW own) = .ok (S (k + i + 1), out (k + i))) → lcF own step items (S k) = .ok (S (k + items.length), (List.range' k items.length).map out)
  | [], k, _ => rfl
  | d :: ds, k, h => by
    obtain ⟨m, h1, h2⟩ := kW_of (h 0 d rfl)
    show (step (S k) d >>= _) = _
    rw [show k + 0 = k from rfl] at h1
    rw [h1]
    show (lcF own step ds (wipeS m own) >>= _) = _
    rw [h2, show k + 0 + 1 = k + 1 from rfl, lcF_to S out (k + 1) fun i d' hi => by have := h (i + 1) d' (by simpa using hi); rw [show k + (i + 1) = k + 1 + i by omega] at this; exact this]
    show Oc.ok _ = _
    rw [List.length_cons, show k + 1 + ds.length = k + (ds.length + 1) by omega, List.range'_succ, List.map_cons]
theorem lcF_inv {own : List Nat} {step : Sls → PyData → Oc (Sls × PyData)} {s : Sls} {items : List PyData} (S : Nat → Sls) (out : Nat → PyData) (h0 : s = S 0) (h : ∀ i d, items[i]? = some d → (step (S i) d >>= kW own) = .ok (S (i + 1), out i)) : lcF own step items s = .ok (S items.length, (List.range items.length).map out) := by
  subst h0
  have := lcF_to S out (own := own) (step := step) (items := items) 0 fun i d hi => by simpa using h i d hi
  rw [this, List.range_eq_range']; simp
theorem lcIfF_to {own : List Nat} {step : Sls → PyData → Oc (Sls × Option PyData)} (S : Nat → Sls) (out : Nat → Option PyData) : ∀ {items : List PyData} (k : Nat), (∀ i d, items[i]? = some d → (step (S (k + i)) d >>= kW own) = .ok (S (k + i + 1), out (k + i))) → lcIfF own step items (S k) = .ok (S (k + items.length), (List.range' k items.length).flatMap fun i => (out i).toList)
  | [], k, _ => rfl
  | d :: ds, k, h => by
    obtain ⟨m, h1, h2⟩ := kW_of (h 0 d rfl)
    show (step (S k) d >>= _) = _
    rw [show k + 0 = k from rfl] at h1
    rw [h1]
    show (lcIfF own step ds (wipeS m own) >>= _) = _
    rw [h2, show k + 0 + 1 = k + 1 from rfl, lcIfF_to S out (k + 1) fun i d' hi => by have := h (i + 1) d' (by simpa using hi); rw [show k + (i + 1) = k + 1 + i by omega] at this; exact this]
    show Oc.ok _ = _
    rw [List.length_cons, show k + 1 + ds.length = k + (ds.length + 1) by omega, List.range'_succ, List.flatMap_cons]
theorem lcIfF_inv {own : List Nat} {step : Sls → PyData → Oc (Sls × Option PyData)} {s : Sls} {items : List PyData} (S : Nat → Sls) (out : Nat → Option PyData) (h0 : s = S 0) (h : ∀ i d, items[i]? = some d → (step (S i) d >>= kW own) = .ok (S (i + 1), out i)) : lcIfF own step items s = .ok (S items.length, (List.range items.length).flatMap fun i => (out i).toList) := by
  subst h0
  have := lcIfF_to S out (own := own) (step := step) (items := items) 0 fun i d hi => by simpa using h i d hi
  rw [this, List.range_eq_range']; simp
theorem lcLF_map {own : List Nat} {step : Sls → PyData → Oc (Sls × List PyData)} {s : Sls} {α : Type} {e : α → PyData} (f : α → List PyData) {as : List α} (h : ∀ a ∈ as, (step s (e a) >>= kW own) = .ok (s, f a)) : lcLF own step (as.map e) s = .ok (s, as.map f) := by
  induction as with
  | nil => rfl
  | cons a as ih =>
    obtain ⟨m, h1, h2⟩ := kW_of (h a List.mem_cons_self)
    show (step s (e a) >>= _) = _
    rw [h1]
    show (lcLF own step (as.map e) (wipeS m own) >>= _) = _
    rw [h2, ih fun d hd => h d (List.mem_cons_of_mem _ hd)]
    rfl
/-- the same, with slots that may hold anything -/
theorem lcF_ex {τ : Type} {own : List Nat} {step : Sls → PyData → Oc (Sls × PyData)} (S : τ → Sls) {α : Type} {e : α → PyData} (f : α → PyData) : ∀ {as : List α} (t : τ), (∀ a ∈ as, ∀ t, ∃ t', (step (S t) (e a) >>= kW own) = .ok (S t', f a)) → ∃ t', lcF own step (as.map e) (S t) = .ok (S t', as.map f)
  | [], t, _ => ⟨t, rfl⟩
  | a :: as, t, h => by
    obtain ⟨t1, h0⟩ := h a List.mem_cons_self t
    obtain ⟨m, h1, h2⟩ := kW_of h0
    obtain ⟨t2, h3⟩ := lcF_ex S f (as := as) t1 fun b hb => h b (List.mem_cons_of_mem _ hb)
    refine ⟨t2, ?_⟩
    show (step (S t) (e a) >>= _) = _
    rw [h1]
    show (lcF own step (as.map e) (wipeS m own) >>= _) = _
    rw [h2, h3]
    rfl
theorem lc_go {τ β : Type} {own : List Nat} {step : Sls → PyData → Oc (Sls × PyData)} {s : Sls} {α : Type} {e : α → PyData} {as : List α} {k : Sls × List PyData → Oc β} {r : Oc β} (S : τ → Sls) (f : α → PyData) (t : τ) (h0 : s = S t) (h : ∀ a ∈ as, ∀ t, ∃ t', (step (S t) (e a) >>= kW own) = .ok (S t', f a)) (hk : ∀ t, k (S t, as.map f) = r) : (lcF own step (as.map e) s >>= k) = r := by
  subst h0
  obtain ⟨t', e'⟩ := lcF_ex S f t h
  rw [e']
  exact hk t'
theorem lc_goD {τ : Type} {own : List Nat} {step : Sls → PyData → Oc (Sls × PyData)} {s : Sls} {α : Type} {e : α → PyData} {as : List α} {k : Sls × List PyData → Oc Res} {r : Oc PyData} (S : τ → Sls) (f : α → PyData) (t : τ) (h0 : s = S t) (h : ∀ a ∈ as, ∀ t, ∃ t', (step (S t) (e a) >>= kW own) = .ok (S t', f a)) (hk : ∀ t, outD (k (S t, as.map f)) = r) : outD (lcF own step (as.map e) s >>= k) = r := by
  subst h0
  obtain ⟨t', e'⟩ := lcF_ex S f t h
  rw [e']
  exact hk t'
/-- the first element turns what is one's own into data -/
theorem lcF_frz {own : List Nat} {step : Sls → PyData → Oc (Sls × PyData)} {s : Sls} {α : Type} {e : α → PyData} {as : List α} (S : Bool → Sls) (f : α → PyData) (h0 : s = S false) (hne : as ≠ []) (h : ∀ a ∈ as, ∀ c, (step (S c) (e a) >>= kW own) = .ok (S true, f a)) : lcF own step (as.map e) s = .ok (S true, as.map f) := by
  subst h0
  cases as with
  | nil => exact absurd rfl hne
  | cons a as =>
    obtain ⟨m, h1, h2⟩ := kW_of (h a List.mem_cons_self false)
    show (step (S false) (e a) >>= _) = _
    rw [h1]
    show (lcF own step (as.map e) (wipeS m own) >>= _) = _
    rw [h2, lcF_map f fun b hb => h b (List.mem_cons_of_mem _ hb) true]
    rfl
theorem rng_map {n : Nat} : rngD 0 n = (List.range n).map fun i : Nat => .int (i : Nat) := by unfold rngD; congr 1; funext i; rw [Int.zero_add]
/-- a while: by what the slots are ahead of each turn -/
theorem whlF_inv {c : Sls → Oc (Sls × Bool)} {b : Sls → Oc Res} {s : Sls} (S : Nat → Sls) (n : Nat) (hn : n < 2 ^ 32) (h0 : s = S 0) (hb : ∀ i, i < n → c (S i) = .ok (S i, true) ∧ b (S i) = .ok (.nx (S (i + 1)))) (he : c (S n) = .ok (S n, false)) : whlF c b s = .ok (.nx (S n)) := by
  subst h0
  have : ∀ (m k f : Nat), k + m = n → m < f → whlN c b f (S k) = .ok (.nx (S n)) := by
    intro m
    induction m with
    | zero =>
      intro k f h1 h2
      obtain ⟨f, rfl⟩ : ∃ g, f = g + 1 := ⟨f - 1, by omega⟩
      have : k = n := by omega
      subst this
      show (c (S k) >>= _) = _
      rw [he]; rfl
    | succ m ih =>
      intro k f h1 h2
      obtain ⟨f, rfl⟩ : ∃ g, f = g + 1 := ⟨f - 1, by omega⟩
      have hk := hb k (by omega)
      show (c (S k) >>= _) = _
      rw [hk.1]
      show (b (S k) >>= _) = _
      rw [hk.2]
      exact ih (k + 1) f (by omega) (by omega)
  exact this n 0 fuel (by omega) (by unfold fuel; omega)
end
end
end Ewl
-- M1
set_option Elab.async false
set_option linter.all false
set_option maxRecDepth 100000
set_option maxHeartbeats 2000000
/-! Fractions, loads, machines as data. -/
namespace Ewl
open PySem L2
/-! ### shapes -/
def Sh (n : Nat) (d : PyData) : Prop := d.canLay0 = true ∧ d.depth ≤ n
theorem Sh.mono {n m : Nat} {d : PyData} (h : Sh n d) (k : n ≤ m) : Sh m d := ⟨h.1, Nat.le_trans h.2 k⟩
theorem sh_int (i : Int) : Sh 0 (.int i) := ⟨by simp [PyData.canLay0], by simp [PyData.depth]⟩
theorem sh_all {n : Nat} : ∀ {ds : List PyData}, (∀ d ∈ ds, Sh n d) → PyData.canLayAll0 ds = true ∧ PyData.depthAll ds ≤ n
  | [], _ => ⟨by simp [PyData.canLayAll0], by simp [PyData.depthAll]⟩
  | d :: ds, h => by
    have q := sh_all (n := n) fun x hx => h x (List.mem_cons_of_mem _ hx)
    have r := h d List.mem_cons_self
    refine ⟨by simp [PyData.canLayAll0, q.1, r.1], ?_⟩
    have e : PyData.depthAll (d :: ds) = max (PyData.depth d) (PyData.depthAll ds) := by rw [PyData.depthAll]
    rw [e]
    have := q.2
    have := r.2
    omega
theorem sh_tup {n : Nat} {ds : List PyData} (h : ∀ d ∈ ds, Sh n d) : Sh (n + 1) (.tuple ds) := by
  have q := sh_all h
  exact ⟨by simp [PyData.canLay0, q.1], by simp [PyData.depth]; exact q.2⟩
theorem sh_lst {n : Nat} {ds : List PyData} (h : ∀ d ∈ ds, Sh n d) : Sh (n + 1) (.list ds) := by
  have q := sh_all h
  exact ⟨by simp [PyData.canLay0, q.1], by simp [PyData.depth]; exact q.2⟩
theorem Sh.shaped {n : Nat} {d : PyData} (h : Sh n d) (k : n ≤ 64 := by decide) : SeqAt.shaped d = true := by
  unfold SeqAt.shaped
  rw [h.1, Bool.true_and]
  exact decide_eq_true (Nat.le_trans h.2 k)
mutual
theorem eqv_self : ∀ d : PyData, d.canLay0 = true → PyData.eqv d d = true
  | .none, _ => by simp [PyData.eqv]
  | .bool _, _ => by simp [PyData.eqv]
  | .int _, _ => by simp [PyData.eqv]
  | .str x, _ => by simp [PyData.eqv]
  | .list xs, h => by simp [PyData.eqv]; exact eqvAll_self xs (by simpa [PyData.canLay0] using h)
  | .tuple xs, h => by simp [PyData.eqv]; exact eqvAll_self xs (by simpa [PyData.canLay0] using h)
  | .dict _, h => by simp [PyData.canLay0] at h
theorem eqvAll_self : ∀ ds : List PyData, PyData.canLayAll0 ds = true → PyData.eqvAll ds ds = true
  | [], _ => by simp [PyData.eqvAll]
  | d :: ds, h => by
    have q : d.canLay0 = true ∧ PyData.canLayAll0 ds = true := by simpa [PyData.canLayAll0] using h
    simp [PyData.eqvAll, eqv_self d q.1, eqvAll_self ds q.2]
end
section
variable {K : PySem.W.Frag} {n : Nat} {d : PyData}
theorem rd_neSame (h : Sh n d) (k : n ≤ 64 := by decide) : RD K (rNeD K) d d (.bool false) := by
  have e : PyData.bool false = .bool (!PyData.eqv d d) := by rw [eqv_self d h.1]; rfl
  rw [e]
  exact @rd_neD K d d (h.shaped k) (h.shaped k)
theorem rd_eqSame (h : Sh n d) (k : n ≤ 64 := by decide) : RD K (rEqD K) d d (.bool true) := by
  have e : PyData.bool true = .bool (PyData.eqv d d) := by rw [eqv_self d h.1]
  rw [e]
  exact @rd_eqD K d d (h.shaped k) (h.shaped k)
end
/-! ### encodings -/
def iD (n : Nat) : PyData := .int (n : Int)
def fD (q : Rat) : PyData := .tuple [.int q.num, .int (q.den : Int)]
def rowD (r : List Rat) : PyData := .tuple (r.map fD)
def lD (L : List (List Rat)) : PyData := .tuple (L.map rowD)
abbrev Spot := Nat × Nat
def sD (s : Spot) : PyData := .tuple [.int (s.1 : Nat), .int (s.2 : Nat)]
def pD (p : Spot × Spot) : PyData := .tuple [sD p.1, sD p.2]
def zs (cs : List Nat) : List Int := cs.map fun n : Nat => (n : Int)
def cD (cs : List Nat) : PyData := .tuple ((zs cs).map .int)
def tD (ts : List (Spot × Spot)) : PyData := .tuple (ts.map pD)
structure Mach where
  cs : List Nat
  ts : List (Spot × Spot)
def mD (M : Mach) : PyData := .tuple [cD M.cs, tD M.ts]
theorem sh_fD (q : Rat) : Sh 1 (fD q) := sh_tup fun d hd => by
  rcases List.mem_cons.mp hd with z | z
  · subst z; exact sh_int _
  · rw [List.mem_singleton.mp z]; exact sh_int _
theorem sh_rowD (r : List Rat) : Sh 2 (rowD r) := sh_tup fun d hd => by
  obtain ⟨q, _, rfl⟩ := List.mem_map.mp hd
  exact sh_fD q
theorem sh_lD (L : List (List Rat)) : Sh 3 (lD L) := sh_tup fun d hd => by
  obtain ⟨q, _, rfl⟩ := List.mem_map.mp hd
  exact sh_rowD q

/-! ### lowest terms -/
theorem low_fD {t b : Int} (h : 0 < b) : PyData.tuple [.int (t / ((Nat.gcd t.natAbs b.natAbs : Nat) : Int)), .int (b / ((Nat.gcd t.natAbs b.natAbs : Nat) : Int))] = fD (Rat.divInt t b) := by
  unfold fD
  rw [Rat.num_divInt, Rat.den_divInt]
  have e : b.gcd t = Nat.gcd t.natAbs b.natAbs := by rw [Int.gcd, Nat.gcd_comm]
  rw [e, Int.sign_eq_one_of_pos h, Int.one_mul, if_neg (by omega)]
  have eb : ((b.natAbs / Nat.gcd t.natAbs b.natAbs : Nat) : Int) = b / ((Nat.gcd t.natAbs b.natAbs : Nat) : Int) := by
    rw [Int.natCast_ediv, Int.natAbs_of_nonneg (by omega)]
  rw [eb]
theorem num_den (p : Rat) : (p.num : Rat) / ((p.den : Nat) : Rat) = p := by
  have := Rat.num_divInt_den p
  rw [Rat.divInt_eq_div] at this
  exact_mod_cast this
theorem divInt_plus (p q : Rat) : Rat.divInt (p.num * q.den + q.num * p.den) (p.den * q.den) = p + q := by
  rw [Rat.add_def', ← Rat.divInt_ofNat, Int.natCast_mul]
theorem divInt_less (p q : Rat) : Rat.divInt (p.num * q.den - q.num * p.den) (p.den * q.den) = p - q := by
  rw [Rat.sub_def', ← Rat.divInt_ofNat, Int.natCast_mul]
theorem divInt_times (p q : Rat) : Rat.divInt (p.num * q.num) (p.den * q.den) = p * q := by
  rw [Rat.divInt_eq_div]
  have h1 : ((p.den : Nat) : Rat) ≠ 0 := by simp [p.den_nz]
  have h2 : ((q.den : Nat) : Rat) ≠ 0 := by simp [q.den_nz]
  have ep := num_den p
  have eq := num_den q
  push_cast
  grind
theorem divInt_half (p : Rat) : Rat.divInt p.num (2 * p.den) = p / 2 := by
  rw [Rat.divInt_eq_div]
  have h1 : ((p.den : Nat) : Rat) ≠ 0 := by simp [p.den_nz]
  have ep := num_den p
  push_cast
  grind
/-! ### sizes -/
def Sz (k : Nat) (q : Rat) : Prop := q.num.natAbs < 2 ^ k ∧ q.den < 2 ^ k
theorem Sz.mono {k l : Nat} {q : Rat} (h : Sz k q) (hl : k ≤ l) : Sz l q := ⟨Nat.lt_of_lt_of_le h.1 (Nat.pow_le_pow_right (by decide) hl), Nat.lt_of_lt_of_le h.2 (Nat.pow_le_pow_right (by decide) hl)⟩
theorem mk_le {n : Int} {d : Nat} (hd : 0 < d) : (mkRat n d).num.natAbs ≤ n.natAbs ∧ (mkRat n d).den ≤ d := by
  obtain ⟨m, hm, e1, e2⟩ := Rat.mkRat_num_den (d := d) (n := n) (n' := (mkRat n d).num) (d' := (mkRat n d).den) (z' := (mkRat n d).den_nz) (c := (mkRat n d).reduced) (by omega) rfl
  have hm' : 1 ≤ m := Nat.pos_of_ne_zero hm
  refine ⟨?_, ?_⟩
  · conv => rhs; rw [e1]
    rw [Int.natAbs_mul, Int.natAbs_natCast]
    exact Nat.le_mul_of_pos_right _ hm'
  · conv => rhs; rw [e2]
    exact Nat.le_mul_of_pos_right _ hm'
theorem sz_mk {n : Int} {d k : Nat} (hd : 0 < d) (h1 : n.natAbs < 2 ^ k) (h2 : d < 2 ^ k) : Sz k (mkRat n d) :=
  ⟨Nat.lt_of_le_of_lt (mk_le hd).1 h1, Nat.lt_of_le_of_lt (mk_le hd).2 h2⟩
theorem lt_mul2 {a b x y : Nat} (h1 : x < 2 ^ a) (h2 : y < 2 ^ b) : x * y < 2 ^ (a + b) := by
  rw [Nat.pow_add]; exact Nat.mul_lt_mul'' h1 h2
theorem sz_plus {a b : Nat} {p q : Rat} (h1 : Sz a p) (h2 : Sz b q) : Sz (a + b + 1) (p + q) := by
  rw [Rat.add_def']
  refine sz_mk (Nat.mul_pos p.den_pos q.den_pos) ?_ ?_
  · have e1 : (p.num * q.den).natAbs < 2 ^ (a + b) := by rw [Int.natAbs_mul, Int.natAbs_natCast]; exact lt_mul2 h1.1 h2.2
    have e2 : (q.num * p.den).natAbs < 2 ^ (a + b) := by rw [Int.natAbs_mul, Int.natAbs_natCast, Nat.add_comm]; exact lt_mul2 h2.1 h1.2
    rw [Nat.pow_succ]
    omega
  · have := lt_mul2 h1.2 h2.2
    rw [Nat.pow_succ]
    omega
theorem sz_times {a b : Nat} {p q : Rat} (h1 : Sz a p) (h2 : Sz b q) : Sz (a + b) (p * q) := by
  have e : p * q = mkRat (p.num * q.num) (p.den * q.den) := by rw [← divInt_times, ← Rat.divInt_ofNat, Int.natCast_mul]
  rw [e]
  refine sz_mk (Nat.mul_pos p.den_pos q.den_pos) ?_ (lt_mul2 h1.2 h2.2)
  rw [Int.natAbs_mul]
  exact lt_mul2 h1.1 h2.1
theorem sz_half {a : Nat} {p : Rat} (h1 : Sz a p) : Sz (a + 1) (p / 2) := by
  have e : p / 2 = mkRat p.num (2 * p.den) := by rw [← divInt_half, ← Rat.divInt_ofNat, Int.natCast_mul]; rfl
  rw [e]
  have := h1.1
  have := h1.2
  have := p.den_pos
  refine sz_mk (by omega) ?_ ?_
  · rw [Nat.pow_succ]; omega
  · rw [Nat.pow_succ]; omega
theorem sz_zero {k : Nat} (h : 0 < k) : Sz k 0 := ⟨by simpa using Nat.pow_pos (a := 2) (n := k) (by decide), by
  show 1 < 2 ^ k
  exact Nat.one_lt_two_pow (by omega)⟩
theorem sz_one {k : Nat} (h : 0 < k) : Sz k 1 := ⟨by simpa using Nat.one_lt_two_pow (n := k) (by omega), by
  show 1 < 2 ^ k
  exact Nat.one_lt_two_pow (by omega)⟩
theorem sz_neg {k : Nat} {q : Rat} (h : Sz k q) : Sz k (-q) := ⟨by simpa using h.1, by simpa using h.2⟩
theorem sz_sum {k : Nat} : ∀ {qs : List Rat}, (∀ q ∈ qs, Sz k q) → Sz (qs.length * (k + 1) + 1) qs.sum
  | [], _ => sz_zero (by omega)
  | q :: qs, h => by
    have ih := sz_sum (qs := qs) fun x hx => h x (List.mem_cons_of_mem _ hx)
    have := sz_plus (h q List.mem_cons_self) ih
    rw [List.sum_cons]
    refine this.mono ?_
    rw [List.length_cons, Nat.succ_mul]
    omega
/-- of one bottom: a multiple of 1 / d, at most n -/
def Bd (d n : Nat) (q : Rat) : Prop := 0 < d ∧ ∃ m : Int, q = mkRat m d ∧ m.natAbs ≤ n * d
theorem Bd.sz {d n k : Nat} {q : Rat} (h : Bd d n q) (h1 : n * d < 2 ^ k) (h2 : d < 2 ^ k) : Sz k q := by
  obtain ⟨hd, m, rfl, hm⟩ := h
  exact sz_mk hd (Nat.lt_of_le_of_lt hm h1) h2
theorem Bd.mul {d n e : Nat} {q : Rat} (h : Bd d n q) (he : 0 < e) : Bd (d * e) n q := by
  obtain ⟨hd, m, rfl, hm⟩ := h
  refine ⟨Nat.mul_pos hd he, m * e, ?_, ?_⟩
  · rw [Rat.mkRat_eq_iff (by omega) (by have := Nat.mul_pos hd he; omega)]
    rw [Int.natCast_mul, Int.mul_assoc, Int.mul_comm (d : Int)]
  · rw [Int.natAbs_mul, Int.natAbs_natCast, ← Nat.mul_assoc]
    exact Nat.mul_le_mul_right _ hm
theorem Bd.add {d n n' : Nat} {p q : Rat} (h : Bd d n p) (h' : Bd d n' q) : Bd d (n + n') (p + q) := by
  obtain ⟨hd, m, rfl, hm⟩ := h
  obtain ⟨_, m', rfl, hm'⟩ := h'
  refine ⟨hd, m + m', ?_, ?_⟩
  · rw [Rat.mkRat_add_mkRat _ _ (by omega) (by omega), Rat.mkRat_eq_iff (by have := Nat.mul_pos hd hd; omega) (by omega)]
    rw [Int.natCast_mul]
    grind
  · rw [Nat.add_mul]; omega
theorem Bd.times {d n d' n' : Nat} {p q : Rat} (h : Bd d n p) (h' : Bd d' n' q) : Bd (d * d') (n * n') (p * q) := by
  obtain ⟨hd, m, rfl, hm⟩ := h
  obtain ⟨hd', m', rfl, hm'⟩ := h'
  refine ⟨Nat.mul_pos hd hd', m * m', by rw [Rat.mkRat_mul_mkRat], ?_⟩
  rw [Int.natAbs_mul]
  calc m.natAbs * m'.natAbs ≤ (n * d) * (n' * d') := Nat.mul_le_mul hm hm'
    _ = n * n' * (d * d') := by grind
theorem Bd.mean {d n : Nat} {p q : Rat} (h : Bd d n p) (h' : Bd d n q) : Bd (d * 2) n ((p + q) / 2) := by
  obtain ⟨hd, m, rfl, hm⟩ := h
  obtain ⟨_, m', rfl, hm'⟩ := h'
  refine ⟨by omega, m + m', ?_, ?_⟩
  · have h1 : ((d : Nat) : Rat) ≠ 0 := by simp; omega
    rw [Rat.mkRat_eq_div, Rat.mkRat_eq_div, Rat.mkRat_eq_div]
    push_cast
    grind
  · have : n * (d * 2) = n * d + n * d := by grind
    omega
theorem Bd.zero {d n : Nat} (hd : 0 < d) : Bd d n 0 := ⟨hd, 0, by simp, by simp⟩
theorem Bd.mono {d n n' : Nat} {q : Rat} (h : Bd d n q) (hn : n ≤ n') : Bd d n' q := by
  obtain ⟨hd, m, e, hm⟩ := h
  exact ⟨hd, m, e, Nat.le_trans hm (Nat.mul_le_mul_right _ hn)⟩
end Ewl
-- M2
set_option Elab.async false
set_option linter.all false
set_option maxRecDepth 100000
set_option maxHeartbeats 2000000
/-! Machines. -/
namespace Ewl
open PySem L2
def SpOk (cs : List Nat) (s : Spot) : Prop := ∃ c, cs[s.1]? = some c ∧ s.2 < c
def sLt (a b : Spot) : Prop := a.1 < b.1 ∨ (a.1 = b.1 ∧ a.2 < b.2)
def pLt (p q : Spot × Spot) : Prop := sLt p.1 q.1 ∨ (p.1 = q.1 ∧ sLt p.2 q.2)
instance (a b : Spot) : Decidable (sLt a b) := by unfold sLt; infer_instance
instance (a b : Spot × Spot) : Decidable (pLt a b) := by unfold pLt; infer_instance
def tSpots (ts : List (Spot × Spot)) : List Spot := ts.flatMap fun p => [p.1, p.2]
structure MOk (M : Mach) : Prop where
  len1 : 1 ≤ M.cs.length
  len2 : M.cs.length ≤ 16
  pos : ∀ c ∈ M.cs, 1 ≤ c
  sum : M.cs.sum ≤ 30
  tl : M.ts.length ≤ 8
  sp : ∀ p ∈ M.ts, SpOk M.cs p.1 ∧ SpOk M.cs p.2 ∧ sLt p.1 p.2
  ri : ∀ (i : Nat) p q, M.ts[i]? = some p → M.ts[i + 1]? = some q → pLt p q
  nd : (tSpots M.ts).Nodup
theorem zs_len {cs : List Nat} : (zs cs).length = cs.length := by simp [zs]
theorem zs_sum : ∀ {cs : List Nat}, (zs cs).sum = ((cs.sum : Nat) : Int)
  | [] => rfl
  | c :: cs => by
    have := zs_sum (cs := cs)
    unfold zs at this ⊢
    rw [List.map_cons, List.sum_cons, List.sum_cons, this]
    omega
theorem zs_get {cs : List Nat} {i : Nat} {z : Int} (h : (zs cs)[i]? = some z) : ∃ c : Nat, cs[i]? = some c ∧ z = c := by
  unfold zs at h
  rw [List.getElem?_map] at h
  cases e : cs[i]? with
  | none => rw [e] at h; cases h
  | some x => rw [e] at h; exact ⟨x, rfl, (Option.some.inj h).symm⟩
theorem zs_at {cs : List Nat} {i c : Nat} (h : cs[i]? = some c) : atI ((zs cs).map PyData.int) (i : Nat) = some (.int (c : Nat)) := by
  refine at_nat ?_
  unfold zs
  rw [List.getElem?_map, List.getElem?_map, h]; rfl
theorem le_sum {cs : List Nat} {c : Nat} (h : c ∈ cs) : c ≤ cs.sum := by
  induction cs with
  | nil => cases h
  | cons d ds ih =>
    rw [List.sum_cons]
    rcases List.mem_cons.mp h with z | z
    · omega
    · have := ih z; omega
theorem dataLt_s (a b : Spot) : PySem.W.dataLt (sD a) (sD b) = decide (sLt a b) := by
  unfold sD sLt
  rw [PySem.W.dataLt_ii]
  congr 1
  simp only [eq_iff_iff]
  constructor <;> intro h <;> omega
theorem eqv_s (a b : Spot) : PyData.eqv (sD a) (sD b) = decide (a = b) := by
  unfold sD
  simp [PyData.eqv, PyData.eqvAll]
  obtain ⟨a1, a2⟩ := a
  obtain ⟨b1, b2⟩ := b
  by_cases h1 : a1 = b1 <;> by_cases h2 : a2 = b2 <;> simp [h1, h2] <;> omega
theorem alike_s (a b : Spot) : PySem.W.alike (sD a) (sD b) = true := by simp [sD, PySem.W.alike, PySem.W.alikeAll]
theorem alike_p (a b : Spot × Spot) : PySem.W.alike (pD a) (pD b) = true := by simp [pD, PySem.W.alike, PySem.W.alikeAll, alike_s]
theorem dataLt_p (a b : Spot × Spot) : PySem.W.dataLt (pD a) (pD b) = decide (pLt a b) := by
  unfold pD pLt
  rw [PySem.W.dataLt_pair (alike_s _ _) (alike_s _ _), eqv_s, eqv_s, dataLt_s, dataLt_s]
  by_cases h1 : a.1 = b.1
  · have n1 : ¬ sLt a.1 b.1 := by rw [h1]; unfold sLt; omega
    by_cases h2 : a.2 = b.2
    · have n2 : ¬ sLt a.2 b.2 := by rw [h2]; unfold sLt; omega
      simp [h1, h2, n1, n2]
      rw [h1] at n1; rw [h2] at n2
      simp [n1, n2]
    · simp [h1, h2]
      intro h
      rw [h1] at n1
      exact absurd h n1
  · simp [h1]
theorem sh_sD (s : Spot) : Sh 1 (sD s) := sh_tup fun d hd => by
  rcases List.mem_cons.mp hd with z | z
  · subst z; exact sh_int _
  · rw [List.mem_singleton.mp z]; exact sh_int _
theorem sh_pD (p : Spot × Spot) : Sh 2 (pD p) := sh_tup fun d hd => by
  rcases List.mem_cons.mp hd with z | z
  · subst z; exact sh_sD _
  · rw [List.mem_singleton.mp z]; exact sh_sD _
/-! ### what is taken -/
def kS (s : Spot) : List Key := kI [(s.1 : Int), (s.2 : Int)]
theorem kS_inj {a b : Spot} (h : kS a = kS b) : a = b := by
  unfold kS kI at h
  simp at h
  obtain ⟨a1, a2⟩ := a
  obtain ⟨b1, b2⟩ := b
  simp at h
  ext <;> simp <;> omega
def takenOf (ps : List (Spot × Spot)) : List (List Key × PyData) := ps.foldl (fun t p => putD (putD t (kS p.1) (.bool true)) (kS p.2) (.bool true)) []
theorem putD_none {κ : Type} [DecidableEq κ] {kvs : List (κ × PyData)} {k k' : κ} {v : PyData} (h : valD kvs k' = none) (hk : k ≠ k') : valD (putD kvs k v) k' = none := by
  unfold valD at h ⊢
  simp only [Option.map_eq_none_iff, List.find?_eq_none] at h ⊢
  intro x hx
  unfold putD at hx
  split at hx
  · obtain ⟨y, hy, e⟩ := List.mem_map.mp hx
    have := h y hy
    split at e
    · subst e; simpa using by rename_i q; rw [q]; exact hk
    · subst e; exact this
  · rcases List.mem_append.mp hx with z | z
    · exact h x z
    · rw [List.mem_singleton.mp z]; simpa using hk
theorem putD_len {κ : Type} [DecidableEq κ] {kvs : List (κ × PyData)} {k : κ} {v : PyData} : (putD kvs k v).length ≤ kvs.length + 1 := by
  unfold putD
  split
  · simp
  · simp
theorem taken_app (ps : List (Spot × Spot)) (p : Spot × Spot) : takenOf (ps ++ [p]) = putD (putD (takenOf ps) (kS p.1) (.bool true)) (kS p.2) (.bool true) := by simp [takenOf]
theorem rev_ind {α : Type} {P : List α → Prop} (h0 : P []) (h1 : ∀ l a, P l → P (l ++ [a])) (l : List α) : P l := by
  have : ∀ r : List α, P r.reverse := fun r => by
    induction r with
    | nil => exact h0
    | cons a r ih => rw [List.reverse_cons]; exact h1 _ _ ih
  have q := this l.reverse
  rw [List.reverse_reverse] at q
  exact q
theorem taken_len (ps : List (Spot × Spot)) : (takenOf ps).length ≤ 2 * ps.length := by
  induction ps using rev_ind with
  | h0 => simp [takenOf]
  | h1 ps p ih =>
    rw [taken_app]
    have h1 := putD_len (kvs := putD (takenOf ps) (kS p.1) (.bool true)) (k := kS p.2) (v := .bool true)
    have h2 := putD_len (kvs := takenOf ps) (k := kS p.1) (v := .bool true)
    simp
    omega
theorem taken_none (ps : List (Spot × Spot)) (s : Spot) (h : s ∉ tSpots ps) : valD (takenOf ps) (kS s) = none := by
  induction ps using rev_ind with
  | h0 => simp [takenOf, valD]
  | h1 ps p ih =>
    rw [taken_app]
    have h' : s ∉ tSpots ps ∧ s ≠ p.1 ∧ s ≠ p.2 := by simpa [tSpots, not_or] using h
    exact putD_none (putD_none (ih h'.1) fun e => h'.2.1 (kS_inj e).symm) fun e => h'.2.2 (kS_inj e).symm
end Ewl
-- DN2
set_option Elab.async false
set_option linter.all false
set_option maxRecDepth 100000
set_option maxHeartbeats 4000000
set_option exponentiation.threshold 10000
/-! What the laws draw. -/
namespace Ewl
open PySem L2
def prI (r : Int) : Int := if r = 0 then 1000000007 else if r = 1 then 998244353 else if r = 2 then 2147483629 else 1000000009
def preI (cell k : Int) : Int := cell % prI (k % 4) + 7919 * k + 13
def mixI (cell k : Int) : Int := preI cell k * preI cell k % 2147483647 * 48271 % 2147483647
structure DS where
  left : Int
  cell : Int
  turns : Int
def dsK (s : DS) : List (Key × PyData) := [(.inr "left", .int s.left), (.inr "cell", .int s.cell), (.inr "turns", .int s.turns)]
def refill (s : DS) : DS := ⟨s.left * 2147483647 + mixI s.cell (s.turns + 1), s.cell, s.turns + 1⟩
def refills : Nat → DS → DS
  | 0, s => s
  | n + 1, s => refill (refills n s)
def readyS (s : DS) : DS := if s.left = 0 then refills 4 s else s
def digS (s : DS) (n : Int) : DS := ⟨(readyS s).left / n, (readyS s).cell, (readyS s).turns⟩
def digI (s : DS) (n : Int) : Int := (readyS s).left % n
def DOk (b : Nat) (s : DS) : Prop := 0 ≤ s.turns ∧ s.turns ≤ 4 * (b : Int)
theorem refills_turns (s : DS) : ∀ n : Nat, (refills n s).turns = s.turns + n
  | 0 => by simp [refills]
  | n + 1 => by
    have := refills_turns s n
    show (refills n s).turns + 1 = _
    rw [this]; push_cast; omega
theorem dig_ok {b : Nat} {s : DS} {n : Int} (h : DOk b s) : DOk (b + 1) (digS s n) := by
  unfold DOk digS readyS at *
  split
  · have := refills_turns s 4
    simp only [this]
    push_cast
    omega
  · push_cast
    omega
theorem DOk.mono {b c : Nat} {s : DS} (h : DOk b s) (hc : b ≤ c) : DOk c s := by unfold DOk at *; omega
theorem dig_lt {s : DS} {n : Int} (h : 0 < n) : 0 ≤ digI s n ∧ digI s n < n := ⟨Int.emod_nonneg _ (by omega), Int.emod_lt_of_pos _ h⟩
theorem pr_at (k : Int) : atI [PyData.int 1000000007, .int 998244353, .int 2147483629, .int 1000000009] (k % 4) = some (.int (prI (k % 4))) := by
  have h1 : 0 ≤ k % 4 := Int.emod_nonneg _ (by decide)
  have h2 : k % 4 < 4 := Int.emod_lt_of_pos _ (by decide)
  have h : k % 4 = 0 ∨ k % 4 = 1 ∨ k % 4 = 2 ∨ k % 4 = 3 := by omega
  rcases h with h | h | h | h <;> rw [h] <;> rfl
theorem pr_pos (r : Int) : 0 < prI r ∧ prI r ≤ 2147483629 := by
  unfold prI
  split
  · omega
  · split
    · omega
    · split <;> omega
@[simp] theorem val_left (s : DS) : valD (dsK s) (.inr "left") = some (.int s.left) := rf rfl
@[simp] theorem val_cell (s : DS) : valD (dsK s) (.inr "cell") = some (.int s.cell) := rf rfl
@[simp] theorem val_turns (s : DS) : valD (dsK s) (.inr "turns") = some (.int s.turns) := rf rfl
@[simp] theorem put_left (s : DS) (i : Int) : putD (dsK s) (.inr "left") (.int i) = dsK ⟨i, s.cell, s.turns⟩ := rf rfl
@[simp] theorem put_turns (s : DS) (i : Int) : putD (dsK s) (.inr "turns") (.int i) = dsK ⟨s.left, s.cell, i⟩ := rf rfl
@[simp] theorem dsK_len (s : DS) : (dsK s).length = 3 := rf rfl
theorem sm_lt {i : Int} (h : i.natAbs < 2 ^ 2000) : Sm i := sm_of h
theorem z_mixed {cell k : Int} (h0 : 0 ≤ k) (h1 : k ≤ 10000000) : F__law_mixed [.int cell, .int k] = .ok (.int (mixI cell k)) := by
  have hp := pr_pos (k % 4)
  have a1 : 0 ≤ cell % prI (k % 4) := Int.emod_nonneg _ (by omega)
  have a2 : cell % prI (k % 4) < prI (k % 4) := Int.emod_lt_of_pos _ hp.1
  have hm : -(2 ^ 64) < preI cell k ∧ preI cell k < 2 ^ 64 := by unfold preI; omega
  have s1 : Sm 7919 := sm_lt (by decide)
  have s2 : Sm k := sm_of (k := 64) (by omega)
  have s3 : Sm (preI cell k) := sm_of (k := 65) (by omega)
  have s4 : Sm 48271 := sm_lt (by decide)
  have s5 : Sm (preI cell k * preI cell k % 2147483647) := sm_of (k := 65) (by omega)
  unfold F__law_mixed i__law_mixed
  refine runD_go rfl ?_
  simp [pr_at, bo_mod, bo_mul, hp, s1, s2]
  have e : cell % prI (k % 4) + 7919 * k + 13 = preI cell k := rfl
  simp [e, bo_mul, bo_mod, s3, s4, s5]
  rfl
def startS (cell k : Int) : DS := ⟨if 10 ^ 18 ≤ cell then cell else 0, cell, 1000 * k⟩
theorem z_draw {cell k : Int} (h0 : 0 ≤ k) (h1 : k ≤ 10000) : F__law_draw [.int cell, .int k] = .ok (dsK (startS cell k)) := by
  have s1 : Sm 1000 := sm_lt (by decide)
  have s2 : Sm k := sm_of (k := 64) (by omega)
  unfold F__law_draw i__law_draw
  have e : denEs [] [] (.cons (.ite (.val (.cmp .ge (.var 0) (.bin .pow (.int 10) (.int 18)))) (.var 0) (.int 0)) (.cons (.var 0) (.cons (.bin .mul (.int 1000) (.var 1)) .nil))) [.d (.int cell), .d (.int k)] = .ok ([.d (.int cell), .d (.int k)], [.int (if 10 ^ 18 ≤ cell then cell else 0), .int cell, .int (1000 * k)]) := by
    have p : binD .pow (.int 10) (.int 18) = .ok (.int (10 ^ 18)) := bo_pow ⟨by decide, by decide, by decide⟩
    by_cases h : (10 : Int) ^ 18 ≤ cell
    · simp [p, bo_mul, s1, s2, h]
      simp [bo_mul, s1, s2, show (1000000000000000000 : Int) ≤ cell from by simpa using h]
    · simp [p, bo_mul, s1, s2, h]
      simp [bo_mul, s1, s2, show ¬ (1000000000000000000 : Int) ≤ cell from by simpa using h]
  exact runK_eq rfl e
theorem mix_lt (cell k : Int) : 0 ≤ mixI cell k ∧ mixI cell k < 2147483647 := ⟨Int.emod_nonneg _ (by decide), Int.emod_lt_of_pos _ (by decide)⟩
theorem refills_lt {s : DS} (h : s.left = 0) : ∀ i : Nat, 0 ≤ (refills i s).left ∧ (refills i s).left < 2147483647 ^ i
  | 0 => by simp [refills, h]
  | i + 1 => by
    obtain ⟨h1, h2⟩ := refills_lt h i
    have := mix_lt (refills i s).cell ((refills i s).turns + 1)
    show 0 ≤ (refills i s).left * 2147483647 + mixI (refills i s).cell ((refills i s).turns + 1) ∧ (refills i s).left * 2147483647 + mixI (refills i s).cell ((refills i s).turns + 1) < _
    rw [Int.pow_succ]
    generalize (2147483647 : Int) ^ i = b at *
    omega
theorem refills_sm {s : DS} {i : Nat} (h : s.left = 0) (hi : i < 4) : Sm (refills i s).left := by
  obtain ⟨h1, h2⟩ := refills_lt h i
  refine sm_of (k := 200) ?_
  have : i = 0 ∨ i = 1 ∨ i = 2 ∨ i = 3 := by omega
  rcases this with rfl | rfl | rfl | rfl <;> omega
theorem z_digit {s : DS} {n : Int} (b : Nat) (hb : DOk b s) (hb1 : b ≤ 1000000) (hn : 0 < n) (hn1 : n < 1000000) : allP F__law_digit (dsK s) [.int n] = .ok (dsK (digS s n), .int (digI s n)) := by
  unfold F__law_digit i__law_digit
  have l1 : n.natAbs.log2 < 9000 := log_lt (k := 9000) (by decide) (Nat.lt_of_lt_of_le (m := 2 ^ 20) (by omega) (Nat.pow_le_pow_right (by decide) (by decide)))
  refine allP_ret rfl fun a => ?_
  by_cases h : s.left = 0
  · simp [h, rngOk]
    simp only [b_as]
    refine for_goS (fun i (t : Sl) => [.dk (some a) (dsK (refills i s)), .d (.int n), t, .x]) .x rfl (fun i d t hd => ?_) (fun t => ?_)
    · obtain ⟨hi, rfl⟩ := rng_item hd
      have ht := refills_turns s i
      have hx := z_mixed (cell := (refills i s).cell) (k := (refills i s).turns + 1) (by unfold DOk at hb; omega) (by unfold DOk at hb; omega)
      have m1 : Sm 2147483647 := sm_lt (by decide)
      have m2 : Sm (refills i s).left := refills_sm h hi
      refine ⟨.d (.int i), ?_⟩
      simp [hx, bo_mul, m1, m2]
      rfl
    · simp [bo_mod, bo_fdiv, hn, l1, digS, digI, readyS, h]
  · simp [h, bo_mod, bo_fdiv, hn, l1, digS, digI, readyS]
def byI (d : Int) : Int := if d = 0 then 1 else if d = 1 then 2 else if d = 2 then 2 else if d = 3 then 3 else if d = 4 then 4 else 6
theorem by_at {d : Int} (h : 0 ≤ d ∧ d < 6) : atI [PyData.int 1, .int 2, .int 2, .int 3, .int 4, .int 6] d = some (.int (byI d)) := by
  have h : d = 0 ∨ d = 1 ∨ d = 2 ∨ d = 3 ∨ d = 4 ∨ d = 5 := by omega
  rcases h with h | h | h | h | h | h <;> rw [h] <;> rfl
theorem by_pos (d : Int) : 1 ≤ byI d ∧ byI d ≤ 6 := by
  unfold byI
  repeat (first | omega | split)
def oneI (M by_ : Int) (x : DS × List Nat) : Int := min 12 (min (by_ * (1 + digI x.1 4)) (M - (x.2.sum : Nat)))
def cstep (M by_ : Int) (x : DS × List Nat) : DS × List Nat := (digS x.1 4, x.2 ++ if 0 < oneI M by_ x then [(oneI M by_ x).toNat] else [])
def citer (M by_ : Int) : Nat → DS × List Nat → DS × List Nat
  | 0, x => x
  | n + 1, x => cstep M by_ (citer M by_ n x)
def lcN (st : DS) : Nat := (1 + digI (digS st 6) 6).toNat
def lcX (M : Int) (st : DS) : DS × List Nat := citer M (byI (digI st 6)) (lcN st) (digS (digS st 6) 6, [])
/-- counts that are right -/
structure COk (M : Int) (cs : List Nat) : Prop where
  pos : ∀ c ∈ cs, 1 ≤ c ∧ c ≤ 12
  sum : (cs.sum : Int) ≤ M
theorem citer_ok {M by_ : Int} {x : DS × List Nat} {b : Nat} (hM : 0 ≤ M) (hd : DOk b x.1) (hx : x.2 = []) : ∀ n, DOk (b + n) (citer M by_ n x).1 ∧ COk M (citer M by_ n x).2 ∧ (citer M by_ n x).2.length ≤ n
  | 0 => ⟨hd, by simp [citer, hx]; exact ⟨by simp, by simpa using hM⟩, by simp [citer, hx]⟩
  | n + 1 => by
    obtain ⟨h1, ⟨h2, h3⟩, h4⟩ := citer_ok (by_ := by_) hM hd hx n
    refine ⟨dig_ok h1, ?_, ?_⟩
    · show COk M ((citer M by_ n x).2 ++ if 0 < oneI M by_ (citer M by_ n x) then [(oneI M by_ (citer M by_ n x)).toNat] else [])
      split
      · rename_i h
        have e : oneI M by_ (citer M by_ n x) ≤ M - ((citer M by_ n x).2.sum : Nat) := by unfold oneI; omega
        have e2 : oneI M by_ (citer M by_ n x) ≤ 12 := by unfold oneI; omega
        refine ⟨fun c hc => ?_, ?_⟩
        · rcases List.mem_append.mp hc with z | z
          · exact h2 c z
          · rw [List.mem_singleton.mp z]; omega
        · rw [List.sum_append]
          simp
          omega
      · rw [List.append_nil]; exact ⟨h2, h3⟩
    · show ((citer M by_ n x).2 ++ if 0 < oneI M by_ (citer M by_ n x) then [(oneI M by_ (citer M by_ n x)).toNat] else []).length ≤ n + 1
      split <;> simp <;> omega
theorem citer_ne {M by_ : Int} {x : DS × List Nat} (hM : 1 ≤ M) (hb : 1 ≤ by_) (hx : x.2 = []) : ∀ n, 1 ≤ n → 1 ≤ (citer M by_ n x).2.length
  | 0, h => by omega
  | 1, _ => by
    have hdg : 0 ≤ digI x.1 4 := (dig_lt (by decide)).1
    have hm : 1 * 1 ≤ by_ * (1 + digI x.1 4) := Int.mul_le_mul hb (by omega) (by omega) (by omega)
    have h0 : 0 < oneI M by_ x := by unfold oneI; rw [hx]; simp; omega
    show 1 ≤ (x.2 ++ if 0 < oneI M by_ x then [(oneI M by_ x).toNat] else []).length
    rw [if_pos h0, hx]; simp
  | n + 2, _ => by
    have := citer_ne (by_ := by_) hM hb hx (n + 1) (by omega)
    show 1 ≤ ((citer M by_ (n + 1) x).2 ++ _).length
    rw [List.length_append]; omega
theorem lc_ok {M : Int} (hM : 1 ≤ M) {st : DS} {b : Nat} (h : DOk b st) : DOk (b + 8) (lcX M st).1 ∧ COk M (lcX M st).2 ∧ 1 ≤ (lcX M st).2.length ∧ (lcX M st).2.length ≤ 6 := by
  have hd := dig_lt (s := digS st 6) (n := 6) (by decide)
  have hn : 1 ≤ lcN st ∧ lcN st ≤ 6 := by unfold lcN; omega
  have q := citer_ok (M := M) (by_ := byI (digI st 6)) (x := (digS (digS st 6) 6, [])) (b := b + 2) (by omega) (dig_ok (dig_ok h)) rfl (lcN st)
  have r := citer_ne (M := M) (by_ := byI (digI st 6)) (x := (digS (digS st 6) 6, [])) hM (by_pos _).1 rfl (lcN st) hn.1
  refine ⟨q.1.mono (by omega), q.2.1, r, ?_⟩
  have := q.2.2
  unfold lcX
  omega
theorem z_counts {M : Int} {s : DS} (b : Nat) (hb : DOk b s) (hb1 : b ≤ 900000) (hM : 1 ≤ M) (hM1 : M < 1000) : allP F__law_counts (dsK s) [.int M] = .ok (dsK (lcX M s).1, cD (lcX M s).2) := by
  unfold F__law_counts i__law_counts
  have d1 := z_digit (s := s) (n := 6) b hb (by omega) (by decide) (by decide)
  have d2 := z_digit (s := digS s 6) (n := 6) (b + 1) (dig_ok hb) (by omega) (by decide) (by decide)
  have a1 := by_at (dig_lt (s := s) (n := 6) (by decide))
  have hn := dig_lt (s := digS s 6) (n := 6) (by decide)
  have hr : rngOk (1 + digI (digS s 6) 6) := ⟨by omega, by omega⟩
  refine allP_ret rfl fun a => ?_
  simp [d1, d2, a1, hr]
  refine for_goS (fun i (t : Sl × Sl) => [.dk (some a) (dsK (citer M (byI (digI s 6)) i (digS (digS s 6) 6, [])).1), .d (.int M), .d (.int (byI (digI s 6))), .l ((zs (citer M (byI (digI s 6)) i (digS (digS s 6) 6, [])).2).map .int), t.1, t.2]) (.x, .x) rfl (fun i d t hd => ?_) (fun t => ?_)
  · obtain ⟨hi, rfl⟩ := rng_item hd
    have hc := citer_ok (M := M) (by_ := byI (digI s 6)) (x := (digS (digS s 6) 6, [])) (b := b + 2) (by omega) (dig_ok (dig_ok hb)) rfl i
    show ∃ t' : Sl × Sl, _ = Oc.ok (Res.nx [.dk (some a) (dsK (cstep M (byI (digI s 6)) (citer M (byI (digI s 6)) i (digS (digS s 6) 6, []))).1), .d (.int M), .d (.int (byI (digI s 6))), .l ((zs (cstep M (byI (digI s 6)) (citer M (byI (digI s 6)) i (digS (digS s 6) 6, []))).2).map .int), t'.1, t'.2])
    generalize citer M (byI (digI s 6)) i (digS (digS s 6) 6, []) = x at *
    have d3 := z_digit (s := x.1) (n := 4) (b + 2 + i) hc.1 (by omega) (by decide) (by decide)
    have hg := dig_lt (s := x.1) (n := 4) (by decide)
    have hb := by_pos (digI s 6)
    have s1 : Sm (byI (digI s 6)) := sm_of (k := 10) (by omega)
    have s2 : Sm (1 + digI x.1 4) := sm_of (k := 10) (by omega)
    refine ⟨(.d (.int i), .d (.int (oneI M (byI (digI s 6)) x))), ?_⟩
    simp [d3, bo_mul, s1, s2, zs_sum, zs_len]
    rw [show min 12 (min (byI (digI s 6) * (1 + digI x.1 4)) (M - (x.2.sum : Nat))) = oneI M (byI (digI s 6)) x from rfl]
    have hl : x.2.length ≤ 6 := by omega
    by_cases h : 0 < oneI M (byI (digI s 6)) x
    · have e : ((oneI M (byI (digI s 6)) x).toNat : Int) = oneI M (byI (digI s 6)) x := Int.toNat_of_nonneg (by omega)
      simp [h, zs_len, cstep, show x.2.length + 1 ≤ 100000 by omega]
      simp [zs, e]
    · simp [h, zs_len, cstep, show x.2.length ≤ 100000 by omega]
  · simp
    exact ⟨rfl, rfl⟩
end Ewl
-- N1
set_option Elab.async false
set_option linter.all false
set_option maxRecDepth 100000
set_option maxHeartbeats 4000000
set_option exponentiation.threshold 10000
/-! Loads: what is done, over fractions; the mathematics. -/
namespace Ewl
open PySem L2
theorem map_get {α : Type} {f : α → PyData} {xs : List α} {i : Nat} {d : PyData} (h : (xs.map f)[i]? = some d) : ∃ x, xs[i]? = some x ∧ d = f x := by
  rw [List.getElem?_map] at h
  cases e : xs[i]? with
  | none => rw [e] at h; cases h
  | some x => rw [e] at h; exact ⟨x, rfl, (Option.some.inj h).symm⟩
def LOk (cs : List Nat) (L : List (List Rat)) : Prop := L.map List.length = cs
theorem LOk.len {cs : List Nat} {L : List (List Rat)} (h : LOk cs L) : L.length = cs.length := by rw [← h, List.length_map]
theorem LOk.get {cs : List Nat} {L : List (List Rat)} {i c : Nat} (h : LOk cs L) (hc : cs[i]? = some c) : ∃ r, L[i]? = some r ∧ r.length = c := by
  rw [← h, List.getElem?_map] at hc
  cases e : L[i]? with
  | none => rw [e] at hc; cases hc
  | some r => rw [e] at hc; exact ⟨r, rfl, Option.some.inj hc⟩
theorem enum_item {xs : List PyData} {i : Nat} {d : PyData} (h : (enumD 0 xs)[i]? = some d) : ∃ x, xs[i]? = some x ∧ d = .tuple [.int (i : Nat), x] := by
  have hi : i < xs.length := by
    have := (List.getElem?_eq_some_iff.mp h).1
    simpa [enumD_len] using this
  have hx : xs[i]? = some xs[i] := by simp [hi]
  rw [enumD_get hx] at h
  exact ⟨_, hx, (Option.some.inj h).symm⟩
def atL (L : List (List Rat)) (s : Spot) : Rat := (L.getD s.1 []).getD s.2 0
def setAt (L : List (List Rat)) (s : Spot) (q : Rat) : List (List Rat) := L.set s.1 ((L.getD s.1 []).set s.2 q)
def zeroL (cs : List Nat) : List (List Rat) := cs.map fun c => List.replicate c (0 : Rat)
def addL (L L' : List (List Rat)) : List (List Rat) := List.zipWith (List.zipWith (· + ·)) L L'
def scaleL (L : List (List Rat)) (c : Rat) : List (List Rat) := L.map (List.map (· * c))
def readL (M : Mach) (L : List (List Rat)) : List Rat := M.ts.map fun p => (atL L p.1 + atL L p.2) / 2
def shareL (ts : List (Spot × Spot)) (rs : List Rat) (L : List (List Rat)) : List (List Rat) := (ts.zip rs).foldl (fun R pr => setAt (setAt R pr.1.1 pr.2) pr.1.2 pr.2) L
def rollR (r : List Rat) : List Rat := r.drop 1 ++ r.take 1
def rollL (L : List (List Rat)) : List (List Rat) := L.map rollR
def beatL (M : Mach) (L : List (List Rat)) : List (List Rat) := rollL (shareL M.ts (readL M L) L)
def itB (M : Mach) : Nat → List (List Rat) → List (List Rat)
  | 0, L => L
  | n + 1, L => beatL M (itB M n L)
def SzL (k : Nat) (L : List (List Rat)) : Prop := ∀ r ∈ L, ∀ q ∈ r, Sz k q
theorem SzL.mono {k l : Nat} {L : List (List Rat)} (h : SzL k L) (hl : k ≤ l) : SzL l L := fun r hr q hq => (h r hr q hq).mono hl
theorem setAt_len {cs : List Nat} {L : List (List Rat)} {s : Spot} {q : Rat} (h : LOk cs L) : LOk cs (setAt L s q) := by
  unfold LOk at h ⊢
  rw [← h]
  unfold setAt
  apply List.ext_getElem?
  intro i
  rw [List.getElem?_map, List.getElem?_map, List.getElem?_set]
  by_cases e : s.1 = i
  · subst e
    by_cases hi : s.1 < L.length
    · simp [hi]
    · simp [hi]
  · rw [if_neg e]
theorem zero_ok {cs : List Nat} : LOk cs (zeroL cs) := by
  unfold LOk zeroL
  rw [List.map_map]
  simp [Function.comp_def]
theorem LOk.spot {cs : List Nat} {L : List (List Rat)} {s : Spot} (h : LOk cs L) (hs : SpOk cs s) : ∃ r, L[s.1]? = some r ∧ s.2 < r.length ∧ r[s.2]? = some (atL L s) := by
  obtain ⟨c, hc, hp⟩ := hs
  obtain ⟨r, hr, hl⟩ := h.get hc
  refine ⟨r, hr, by omega, ?_⟩
  have hp' : s.2 < r.length := by omega
  unfold atL
  simp [hr, hp']
theorem add_ok {cs : List Nat} {L L' : List (List Rat)} (h : LOk cs L) (h' : LOk cs L') : LOk cs (addL L L') := by
  unfold LOk addL at *
  subst h
  apply List.ext_getElem?
  intro i
  have e2 : (L'.map List.length)[i]? = (L.map List.length)[i]? := by rw [h']
  rw [List.getElem?_map, List.getElem?_map] at e2
  rw [List.getElem?_map, List.getElem?_zipWith, List.getElem?_map]
  cases x1 : L[i]? with
  | none => rfl
  | some a =>
    cases x2 : L'[i]? with
    | none => rw [x1, x2] at e2; cases e2
    | some b =>
      rw [x1, x2] at e2
      have : b.length = a.length := Option.some.inj e2
      simp [this]
theorem scale_ok {cs : List Nat} {L : List (List Rat)} {c : Rat} (h : LOk cs L) : LOk cs (scaleL L c) := by
  unfold LOk scaleL at *
  rw [← h, List.map_map]
  simp [Function.comp_def]
theorem share_ok {cs : List Nat} : ∀ {ts : List (Spot × Spot)} {rs : List Rat} {L : List (List Rat)}, LOk cs L → LOk cs (shareL ts rs L)
  | [], _, _, h => h
  | _ :: _, [], _, h => h
  | p :: ts, r :: rs, L, h => share_ok (ts := ts) (rs := rs) (L := setAt (setAt L p.1 r) p.2 r) (setAt_len (setAt_len h))
theorem roll_len (r : List Rat) : (rollR r).length = r.length := by
  unfold rollR
  cases r <;> simp
theorem roll_ok {cs : List Nat} {L : List (List Rat)} (h : LOk cs L) : LOk cs (rollL L) := by
  unfold LOk rollL at *
  rw [← h, List.map_map]
  congr 1
  funext r
  exact roll_len r
theorem beat_ok {M : Mach} {L : List (List Rat)} (h : LOk M.cs L) : LOk M.cs (beatL M L) := roll_ok (share_ok h)
theorem it_ok {M : Mach} {L : List (List Rat)} (h : LOk M.cs L) : ∀ n, LOk M.cs (itB M n L)
  | 0 => h
  | n + 1 => beat_ok (it_ok h n)
theorem flat_len {cs : List Nat} {L : List (List Rat)} (h : LOk cs L) : L.flatten.length = cs.sum := by rw [List.length_flatten, ← h]
def oneL (cs : List Nat) (s : Spot) : List (List Rat) := setAt (zeroL cs) s 1
def heldL (L : List (List Rat)) : Rat := L.flatten.sum
def squaresL (L : List (List Rat)) : Rat := (L.flatten.map fun q => q * q).sum
def metT (L : List (List Rat)) (p : Spot × Spot) : Rat := (atL L p.1 + -atL L p.2) * (atL L p.1 + -atL L p.2) / 2
def metL (M : Mach) (L : List (List Rat)) : Rat := (M.ts.map (metT L)).sum
def spotsL (cs : List Nat) : List (List Spot) := (List.range cs.length).map fun w => (List.range (cs.getD w 0)).map fun p => (w, p)
theorem spots_len {cs : List Nat} : (spotsL cs).flatten.length = cs.sum := by
  have : ∀ cs : List Nat, ∀ k : Nat, (((List.range cs.length).map fun w => (List.range (cs.getD w 0)).map fun p => (w + k, p)).flatten).length = cs.sum := by
    intro cs
    induction cs with
    | nil => intro k; rfl
    | cons c cs ih =>
      intro k
      have := ih (k + 1)
      rw [List.length_cons, List.range_succ_eq_map, List.map_cons, List.flatten_cons, List.length_append, List.map_map, List.sum_cons]
      rw [← this]
      simp [Function.comp_def, Nat.add_assoc, Nat.add_comm 1 k]
  exact this cs 0
def BdL (d n : Nat) (L : List (List Rat)) : Prop := ∀ r ∈ L, ∀ q ∈ r, Bd d n q
theorem BdL.sz {d n k : Nat} {L : List (List Rat)} (h : BdL d n L) (h1 : n * d < 2 ^ k) (h2 : d < 2 ^ k) : SzL k L := fun r hr q hq => (h r hr q hq).sz h1 h2
theorem sum_app (a b : List Rat) : (a ++ b).sum = a.sum + b.sum := List.sum_append
theorem roll_get {r : List Rat} {j : Nat} (hj : j < r.length) : ∃ q, r[(j + 1) % r.length]? = some q ∧ (rollR r)[j]? = some q := by
  unfold rollR
  by_cases h : j + 1 < r.length
  · rw [Nat.mod_eq_of_lt h]
    refine ⟨r[j + 1], by simp [h], ?_⟩
    rw [List.getElem?_append_left (by rw [List.length_drop]; omega), List.getElem?_drop, Nat.add_comm]
    simp [h]
  · have e : j + 1 = r.length := by omega
    rw [e, Nat.mod_self]
    refine ⟨r[0], by simp, ?_⟩
    rw [List.getElem?_append_right (by rw [List.length_drop]; omega), List.length_drop]
    have : j - (r.length - 1) = 0 := by omega
    rw [this]
    cases r with
    | nil => simp at hj
    | cons a r => simp
theorem spots_mem {cs : List Nat} {s : Spot} : s ∈ (spotsL cs).flatten ↔ SpOk cs s := by
  unfold spotsL SpOk
  simp only [List.mem_flatten, List.mem_map, List.mem_range]
  constructor
  · rintro ⟨l, ⟨w, hw, rfl⟩, hs⟩
    obtain ⟨p, hp, rfl⟩ := List.mem_map.mp hs
    rw [List.mem_range] at hp
    refine ⟨cs[w], by simp [hw], ?_⟩
    simpa [hw] using hp
  · rintro ⟨c, hc, hp⟩
    have hw := (List.getElem?_eq_some_iff.mp hc).1
    refine ⟨_, ⟨s.1, hw, rfl⟩, List.mem_map.mpr ⟨s.2, ?_, rfl⟩⟩
    rw [List.mem_range, List.getD_eq_getElem?_getD, hc]; exact hp
theorem spots_nd (cs : List Nat) : (spotsL cs).flatten.Nodup := by
  unfold spotsL List.Nodup
  rw [List.pairwise_flatten]
  refine ⟨fun l hl => ?_, ?_⟩
  · obtain ⟨w, _, rfl⟩ := List.mem_map.mp hl
    rw [List.pairwise_map]
    exact (List.nodup_range (n := _)).imp fun h e => h (congrArg Prod.snd e)
  · rw [List.pairwise_map]
    refine (List.nodup_range (n := _)).imp fun h x hx y hy e => ?_
    obtain ⟨p, _, rfl⟩ := List.mem_map.mp hx
    obtain ⟨q, _, rfl⟩ := List.mem_map.mp hy
    exact h (congrArg Prod.fst e)
theorem load_ext {cs : List Nat} {L L' : List (List Rat)} (h : LOk cs L) (h' : LOk cs L') (e : ∀ s, SpOk cs s → atL L s = atL L' s) : L = L' := by
  apply List.ext_getElem?
  intro i
  cases hc : cs[i]? with
  | none =>
    have hi : cs.length ≤ i := List.getElem?_eq_none_iff.mp hc
    rw [List.getElem?_eq_none_iff.mpr (by rw [h.len]; exact hi), List.getElem?_eq_none_iff.mpr (by rw [h'.len]; exact hi)]
  | some c =>
    obtain ⟨r, hr, hl⟩ := h.get hc
    obtain ⟨r', hr', hl'⟩ := h'.get hc
    rw [hr, hr']
    congr 1
    apply List.ext_getElem (by omega)
    intro j h1 h2
    have := e (i, j) ⟨c, hc, by simp; omega⟩
    unfold atL at this
    simpa [hr, hr', h1, h2] using this
theorem at_set {cs : List Nat} {L : List (List Rat)} {s t : Spot} {q : Rat} (h : LOk cs L) (hs : SpOk cs s) : atL (setAt L s q) t = if t = s then q else atL L t := by
  obtain ⟨r, hr, hp, _⟩ := h.spot hs
  obtain ⟨w, p⟩ := s
  obtain ⟨w', p'⟩ := t
  simp only at hr hp
  have hw := (List.getElem?_eq_some_iff.mp hr).1
  unfold atL setAt
  simp only [List.getD_eq_getElem?_getD]
  by_cases e1 : w = w'
  · subst e1
    rw [List.getElem?_set_self hw, hr]
    by_cases e2 : p = p'
    · subst e2
      simp [List.getElem?_set_self hp]
    · have : ¬ ((w, p') : Spot) = (w, p) := fun z => e2 (congrArg Prod.snd z).symm
      rw [if_neg this]
      simp [List.getElem?_set_ne e2]
  · have : ¬ ((w', p') : Spot) = (w, p) := fun z => e1 (congrArg Prod.fst z).symm
    rw [if_neg this, List.getElem?_set_ne e1]
theorem at_add {cs : List Nat} {L L' : List (List Rat)} {s : Spot} (h : LOk cs L) (h' : LOk cs L') (hs : SpOk cs s) : atL (addL L L') s = atL L s + atL L' s := by
  obtain ⟨r, hr, hp, _⟩ := h.spot hs
  obtain ⟨r', hr', hp', _⟩ := h'.spot hs
  unfold atL addL
  simp [List.getElem?_zipWith, hr, hr', hp, hp']
theorem at_scale {cs : List Nat} {L : List (List Rat)} {s : Spot} {c : Rat} (h : LOk cs L) (hs : SpOk cs s) : atL (scaleL L c) s = atL L s * c := by
  obtain ⟨r, hr, hp, _⟩ := h.spot hs
  unfold atL scaleL
  simp [hr, hp]
theorem at_zero {cs : List Nat} {s : Spot} (hs : SpOk cs s) : atL (zeroL cs) s = 0 := by
  obtain ⟨c, hc, hp⟩ := hs
  unfold atL zeroL
  simp [hc, hp]
theorem add_zero' {cs : List Nat} {L : List (List Rat)} (h : LOk cs L) : addL L (zeroL cs) = L :=
  load_ext (add_ok h zero_ok) h fun s hs => by rw [at_add h zero_ok hs, at_zero hs, Rat.add_zero]
theorem one_ok {cs : List Nat} {s : Spot} : LOk cs (oneL cs s) := setAt_len zero_ok
theorem at_one {cs : List Nat} {s t : Spot} (hs : SpOk cs s) (ht : SpOk cs t) : atL (oneL cs s) t = if t = s then 1 else 0 := by
  unfold oneL
  rw [at_set zero_ok hs, at_zero ht]
/-! each spot alone -/
def accL (cs : List Nat) (L : List (List Rat)) : List Spot → List (List Rat) → List (List Rat)
  | [], F => F
  | s :: ss, F => accL cs L ss (addL F (scaleL (oneL cs s) (atL L s)))
theorem acc_app (cs : List Nat) (L : List (List Rat)) (s : Spot) : ∀ (ss : List Spot) (F : List (List Rat)), accL cs L (ss ++ [s]) F = addL (accL cs L ss F) (scaleL (oneL cs s) (atL L s))
  | [], F => rfl
  | _ :: ss, F => acc_app cs L s ss _
theorem acc_ok {cs : List Nat} {L : List (List Rat)} : ∀ {ss : List Spot} {F : List (List Rat)}, LOk cs F → LOk cs (accL cs L ss F)
  | [], _, h => h
  | _ :: ss, _, h => acc_ok (ss := ss) (add_ok h (scale_ok one_ok))
theorem at_acc {cs : List Nat} {L : List (List Rat)} {t : Spot} (ht : SpOk cs t) : ∀ {ss : List Spot} {F : List (List Rat)}, LOk cs F → (∀ s ∈ ss, SpOk cs s) → ss.Nodup → atL (accL cs L ss F) t = atL F t + if t ∈ ss then atL L t else 0
  | [], F, _, _, _ => by simp [accL, Rat.add_zero]
  | s :: ss, F, h, hs, nd => by
    have h1 := hs s List.mem_cons_self
    show atL (accL cs L ss (addL F (scaleL (oneL cs s) (atL L s)))) t = _
    rw [at_acc ht (add_ok h (scale_ok one_ok)) (fun x hx => hs x (List.mem_cons_of_mem _ hx)) (List.nodup_cons.mp nd).2, at_add h (scale_ok one_ok) ht, at_scale one_ok ht, at_one h1 ht]
    by_cases e : t = s
    · subst e
      have n1 := (List.nodup_cons.mp nd).1
      simp [n1, Rat.add_zero, Rat.one_mul]
    · simp [e, Rat.add_zero, Rat.zero_mul]
theorem acc_all {cs : List Nat} {L : List (List Rat)} (h : LOk cs L) : accL cs L (spotsL cs).flatten (zeroL cs) = L :=
  load_ext (acc_ok zero_ok) h fun s hs => by
    rw [at_acc hs zero_ok (fun t ht => spots_mem.mp ht) (spots_nd cs), at_zero hs, if_pos (spots_mem.mpr hs), Rat.zero_add]
/-! beats are linear -/
def Lin (cs : List Nat) (c : Rat) (A B C : List (List Rat)) : Prop := ∀ s, SpOk cs s → atL C s = atL A s + atL B s * c
theorem lin_set {cs : List Nat} {c : Rat} {A B C : List (List Rat)} {s : Spot} {p q : Rat} (hA : LOk cs A) (hB : LOk cs B) (hC : LOk cs C) (hs : SpOk cs s) (h : Lin cs c A B C) : Lin cs c (setAt A s p) (setAt B s q) (setAt C s (p + q * c)) := fun t ht => by
  rw [at_set hA hs, at_set hB hs, at_set hC hs]
  by_cases e : t = s
  · simp [e]
  · simp [e]; exact h t ht
theorem lin_share {cs : List Nat} {c : Rat} : ∀ {ts : List (Spot × Spot)} {ps qs : List Rat} {A B C : List (List Rat)}, LOk cs A → LOk cs B → LOk cs C → (∀ p ∈ ts, SpOk cs p.1 ∧ SpOk cs p.2) → ps.length = ts.length → qs.length = ts.length → Lin cs c A B C →
    Lin cs c (shareL ts ps A) (shareL ts qs B) (shareL ts (List.zipWith (fun p q => p + q * c) ps qs) C)
  | [], _, _, _, _, _, _, _, _, _, _, _, h => h
  | t :: ts, p :: ps, q :: qs, A, B, C, hA, hB, hC, hs, l1, l2, h => by
    obtain ⟨h1, h2⟩ := hs t List.mem_cons_self
    exact lin_share (ts := ts) (ps := ps) (qs := qs) (setAt_len (setAt_len hA)) (setAt_len (setAt_len hB)) (setAt_len (setAt_len hC)) (fun x hx => hs x (List.mem_cons_of_mem _ hx)) (by simpa using l1) (by simpa using l2)
      (lin_set (setAt_len hA) (setAt_len hB) (setAt_len hC) h2 (lin_set hA hB hC h1 h))
  | _ :: _, [], _, _, _, _, _, _, _, _, l1, _, _ => by simp at l1
  | _ :: _, _ :: _, [], _, _, _, _, _, _, _, _, l2, _ => by simp at l2
theorem at_roll {cs : List Nat} {L : List (List Rat)} {w p c : Nat} (h : LOk cs L) (hc : cs[w]? = some c) (hp : p < c) : atL (rollL L) (w, p) = atL L (w, (p + 1) % c) := by
  obtain ⟨r, hr, hl⟩ := h.get hc
  obtain ⟨q, h1, h2⟩ := roll_get (r := r) (j := p) (by omega)
  unfold atL rollL
  rw [hl] at h1
  simp [hr, h1, h2]
theorem lin_roll {cs : List Nat} {c : Rat} {A B C : List (List Rat)} (hA : LOk cs A) (hB : LOk cs B) (hC : LOk cs C) (h : Lin cs c A B C) : Lin cs c (rollL A) (rollL B) (rollL C) := fun s ⟨n, hn, hp⟩ => by
  obtain ⟨w, p⟩ := s
  simp only at hn hp
  rw [at_roll hA hn hp, at_roll hB hn hp, at_roll hC hn hp]
  exact h _ ⟨n, hn, Nat.mod_lt _ (by omega)⟩
theorem lin_beat {M : Mach} (hM : MOk M) {c : Rat} {A B C : List (List Rat)} (hA : LOk M.cs A) (hB : LOk M.cs B) (hC : LOk M.cs C) (h : Lin M.cs c A B C) : Lin M.cs c (beatL M A) (beatL M B) (beatL M C) := by
  have er : readL M C = List.zipWith (fun p q => p + q * c) (readL M A) (readL M B) := by
    unfold readL
    rw [List.zipWith_map]
    have : ∀ ts : List (Spot × Spot), (∀ p ∈ ts, SpOk M.cs p.1 ∧ SpOk M.cs p.2) → ts.map (fun p => (atL C p.1 + atL C p.2) / 2) = List.zipWith (fun a b => (atL A a.1 + atL A a.2) / 2 + (atL B b.1 + atL B b.2) / 2 * c) ts ts := by
      intro ts
      induction ts with
      | nil => intro _; rfl
      | cons p ts ih =>
        intro hs
        obtain ⟨h1, h2⟩ := hs p List.mem_cons_self
        rw [List.map_cons, List.zipWith_cons_cons, ih fun x hx => hs x (List.mem_cons_of_mem _ hx), h _ h1, h _ h2]
        congr 1
        grind
    exact this M.ts fun p hp => ⟨(hM.sp p hp).1, (hM.sp p hp).2.1⟩
  unfold beatL
  refine lin_roll (share_ok hA) (share_ok hB) (share_ok hC) ?_
  rw [er]
  exact lin_share hA hB hC (fun p hp => ⟨(hM.sp p hp).1, (hM.sp p hp).2.1⟩) (by simp [readL]) (by simp [readL]) h
theorem lin_it {M : Mach} (hM : MOk M) {c : Rat} {A B C : List (List Rat)} (hA : LOk M.cs A) (hB : LOk M.cs B) (hC : LOk M.cs C) (h : Lin M.cs c A B C) : ∀ n, Lin M.cs c (itB M n A) (itB M n B) (itB M n C)
  | 0 => h
  | n + 1 => lin_beat hM (it_ok hA n) (it_ok hB n) (it_ok hC n) (lin_it hM hA hB hC h n)
theorem lin_mk {cs : List Nat} {c : Rat} {A B : List (List Rat)} (hA : LOk cs A) (hB : LOk cs B) : Lin cs c A B (addL A (scaleL B c)) := fun s hs => by rw [at_add hA (scale_ok hB) hs, at_scale hB hs]
theorem lin_eq {cs : List Nat} {c : Rat} {A B C : List (List Rat)} (hA : LOk cs A) (hB : LOk cs B) (hC : LOk cs C) (h : Lin cs c A B C) : C = addL A (scaleL B c) :=
  load_ext hC (add_ok hA (scale_ok hB)) fun s hs => by rw [h s hs, lin_mk hA hB s hs]
theorem it_lin {M : Mach} (hM : MOk M) {c : Rat} {A B : List (List Rat)} (hA : LOk M.cs A) (hB : LOk M.cs B) (n : Nat) : itB M n (addL A (scaleL B c)) = addL (itB M n A) (scaleL (itB M n B) c) :=
  lin_eq (it_ok hA n) (it_ok hB n) (it_ok (add_ok hA (scale_ok hB)) n) (lin_it hM hA hB (add_ok hA (scale_ok hB)) (lin_mk hA hB) n)
theorem it_add (M : Mach) (L : List (List Rat)) (a : Nat) : ∀ b, itB M b (itB M a L) = itB M (a + b) L
  | 0 => rfl
  | b + 1 => congrArg (beatL M) (it_add M L a b)
def sF (f : Rat → Rat) (L : List (List Rat)) : Rat := (L.flatten.map f).sum
theorem sum_perm {a b : List Rat} (h : a.Perm b) : a.sum = b.sum := by
  induction h with
  | nil => rfl
  | cons x _ ih => rw [List.sum_cons, List.sum_cons, ih]
  | swap x y l => simp only [List.sum_cons]; grind
  | trans _ _ h1 h2 => exact h1.trans h2
theorem row_set {f : Rat → Rat} {q x : Rat} : ∀ {r : List Rat} {j : Nat}, r[j]? = some x → ((r.set j q).map f).sum = (r.map f).sum - f x + f q
  | [], j, h => by simp at h
  | y :: r, 0, h => by
    simp at h
    subst h
    simp only [List.set_cons_zero, List.map_cons, List.sum_cons]
    grind
  | y :: r, j + 1, h => by
    have := row_set (f := f) (q := q) (r := r) (j := j) (by simpa using h)
    simp only [List.set_cons_succ, List.map_cons, List.sum_cons, this]
    grind
theorem sF_cons (f : Rat → Rat) (r : List Rat) (L : List (List Rat)) : sF f (r :: L) = (r.map f).sum + sF f L := by
  unfold sF
  rw [List.flatten_cons, List.map_append, sum_app]
theorem sF_row {f : Rat → Rat} {r r' : List Rat} : ∀ {L : List (List Rat)} {i : Nat}, L[i]? = some r → sF f (L.set i r') = sF f L - (r.map f).sum + (r'.map f).sum
  | [], i, h => by simp at h
  | y :: L, 0, h => by
    simp at h
    subst h
    rw [List.set_cons_zero, sF_cons, sF_cons]
    grind
  | y :: L, i + 1, h => by
    have := sF_row (f := f) (r := r) (r' := r') (L := L) (i := i) (by simpa using h)
    rw [List.set_cons_succ, sF_cons, sF_cons, this]
    grind
theorem sF_set {f : Rat → Rat} {cs : List Nat} {L : List (List Rat)} {s : Spot} {q : Rat} (h : LOk cs L) (hs : SpOk cs s) : sF f (setAt L s q) = sF f L - f (atL L s) + f q := by
  obtain ⟨r, hr, hp, hq⟩ := h.spot hs
  unfold setAt
  have e : L.getD s.1 [] = r := by rw [List.getD_eq_getElem?_getD, hr]; rfl
  rw [e, sF_row hr, row_set hq]
  grind
theorem sF_roll {f : Rat → Rat} (L : List (List Rat)) : sF f (rollL L) = sF f L := by
  induction L with
  | nil => rfl
  | cons r L ih =>
    show sF f (rollR r :: rollL L) = _
    rw [sF_cons, sF_cons, ih]
    congr 1
    refine sum_perm (List.Perm.map f ?_)
    unfold rollR
    cases r with
    | nil => exact List.Perm.refl _
    | cons a r => simpa using (List.perm_append_singleton a r)
/-- what a touch changes -/
def dT (f : Rat → Rat) (L : List (List Rat)) (p : Spot × Spot) : Rat := 2 * f ((atL L p.1 + atL L p.2) / 2) - f (atL L p.1) - f (atL L p.2)
theorem sF_share {f : Rat → Rat} {cs : List Nat} {L0 : List (List Rat)} : ∀ {ts : List (Spot × Spot)} {L : List (List Rat)}, LOk cs L → (∀ p ∈ ts, SpOk cs p.1 ∧ SpOk cs p.2) → (tSpots ts).Nodup → (∀ s ∈ tSpots ts, atL L s = atL L0 s) →
    sF f (shareL ts (ts.map fun p => (atL L0 p.1 + atL L0 p.2) / 2) L) = sF f L + (ts.map (dT f L0)).sum
  | [], L, _, _, _, _ => by
    show sF f L = sF f L + _
    rw [List.map_nil, List.sum_nil, Rat.add_zero]
  | p :: ts, L, h, hs, nd, e => by
    obtain ⟨h1, h2⟩ := hs p List.mem_cons_self
    have nd' : (p.1 :: p.2 :: tSpots ts).Nodup := nd
    have n1 := List.nodup_cons.mp nd'
    have n2 := List.nodup_cons.mp n1.2
    have ne : p.2 ≠ p.1 := fun z => n1.1 (by rw [← z]; exact List.mem_cons_self)
    have e1 : atL L p.1 = atL L0 p.1 := e _ (by simp [tSpots])
    have e2 : atL L p.2 = atL L0 p.2 := e _ (by simp [tSpots])
    have ih := sF_share (f := f) (L0 := L0) (ts := ts) (L := setAt (setAt L p.1 ((atL L0 p.1 + atL L0 p.2) / 2)) p.2 ((atL L0 p.1 + atL L0 p.2) / 2)) (setAt_len (setAt_len h)) (fun x hx => hs x (List.mem_cons_of_mem _ hx)) n2.2 fun s hs' => by
      have a1 : s ≠ p.1 := fun z => n1.1 (by rw [← z]; exact List.mem_cons_of_mem _ hs')
      have a2 : s ≠ p.2 := fun z => n2.1 (by rw [← z]; exact hs')
      rw [at_set (setAt_len h) h2, if_neg a2, at_set h h1, if_neg a1]
      exact e s (by simp only [tSpots, List.flatMap_cons]; exact List.mem_append_right _ hs')
    show sF f (shareL ts (ts.map fun p => (atL L0 p.1 + atL L0 p.2) / 2) (setAt (setAt L p.1 ((atL L0 p.1 + atL L0 p.2) / 2)) p.2 ((atL L0 p.1 + atL L0 p.2) / 2))) = _
    rw [ih, sF_set (setAt_len h) h2, sF_set h h1, at_set h h1, if_neg ne, e1, e2, List.map_cons, List.sum_cons]
    unfold dT
    grind
theorem held_sF (L : List (List Rat)) : heldL L = sF (fun q => q) L := by unfold heldL sF; rw [List.map_id']
theorem squares_sF (L : List (List Rat)) : squaresL L = sF (fun q => q * q) L := rfl
theorem sum_zero {α : Type} {f : α → Rat} : ∀ {l : List α}, (∀ x ∈ l, f x = 0) → (l.map f).sum = 0
  | [], _ => rfl
  | x :: l, h => by rw [List.map_cons, List.sum_cons, h x List.mem_cons_self, sum_zero fun y hy => h y (List.mem_cons_of_mem _ hy), Rat.add_zero]
theorem sum_eq {α : Type} {f g : α → Rat} : ∀ {l : List α}, (∀ x ∈ l, f x = g x) → (l.map f).sum = (l.map g).sum
  | [], _ => rfl
  | x :: l, h => by rw [List.map_cons, List.sum_cons, List.map_cons, List.sum_cons, h x List.mem_cons_self, sum_eq fun y hy => h y (List.mem_cons_of_mem _ hy)]
theorem sum_neg {α : Type} {f : α → Rat} : ∀ {l : List α}, (l.map fun x => -f x).sum = -(l.map f).sum
  | [] => rfl
  | x :: l => by rw [List.map_cons, List.sum_cons, List.map_cons, List.sum_cons, sum_neg]; grind
theorem sF_beat {M : Mach} (hM : MOk M) {f : Rat → Rat} {L : List (List Rat)} (h : LOk M.cs L) : sF f (beatL M L) = sF f L + (M.ts.map (dT f L)).sum := by
  unfold beatL
  rw [sF_roll]
  exact sF_share h (fun p hp => ⟨(hM.sp p hp).1, (hM.sp p hp).2.1⟩) hM.nd fun _ _ => rfl
theorem held_beat {M : Mach} (hM : MOk M) {L : List (List Rat)} (h : LOk M.cs L) : heldL (beatL M L) = heldL L := by
  rw [held_sF, held_sF, sF_beat hM h, sum_zero, Rat.add_zero]
  intro p _
  unfold dT
  grind
theorem held_it {M : Mach} (hM : MOk M) {L : List (List Rat)} (h : LOk M.cs L) : ∀ n, heldL (itB M n L) = heldL L
  | 0 => rfl
  | n + 1 => (held_beat hM (it_ok h n)).trans (held_it hM h n)
theorem squares_beat {M : Mach} (hM : MOk M) {L : List (List Rat)} (h : LOk M.cs L) : squaresL (beatL M L) + metL M L = squaresL L := by
  rw [squares_sF, squares_sF, sF_beat hM h]
  have e : (M.ts.map (dT (fun q => q * q) L)).sum = -(M.ts.map (metT L)).sum := by
    rw [← sum_neg]
    refine sum_eq fun p _ => ?_
    unfold dT metT
    grind
  unfold metL
  rw [e]
  grind
/-! sizes behind some beats -/
theorem mem_at {cs : List Nat} {L : List (List Rat)} (h : LOk cs L) {r : List Rat} {q : Rat} (hr : r ∈ L) (hq : q ∈ r) : ∃ s, SpOk cs s ∧ q = atL L s := by
  obtain ⟨i, hi, rfl⟩ := List.getElem_of_mem hr
  obtain ⟨j, hj, rfl⟩ := List.getElem_of_mem hq
  have hc : cs[i]? = some L[i].length := by
    have : (L.map List.length)[i]? = cs[i]? := by rw [h]
    rw [← this]; simp [hi]
  exact ⟨(i, j), ⟨_, hc, hj⟩, by unfold atL; simp [hi, hj]⟩
theorem bd_at {cs : List Nat} {L : List (List Rat)} {d n : Nat} (h : LOk cs L) : BdL d n L ↔ ∀ s, SpOk cs s → Bd d n (atL L s) := by
  constructor
  · intro hb s hs
    obtain ⟨r, hr, _, hq⟩ := h.spot hs
    exact hb r (List.mem_of_getElem? hr) _ (List.mem_of_getElem? hq)
  · intro hb r hr q hq
    obtain ⟨s, hs, rfl⟩ := mem_at h hr hq
    exact hb s hs
theorem bd_share {cs : List Nat} {d n : Nat} : ∀ {ts : List (Spot × Spot)} {rs : List Rat} {L : List (List Rat)}, LOk cs L → (∀ p ∈ ts, SpOk cs p.1 ∧ SpOk cs p.2) → (∀ q ∈ rs, Bd d n q) → BdL d n L → BdL d n (shareL ts rs L)
  | [], _, _, _, _, _, h => h
  | _ :: _, [], _, _, _, _, h => h
  | p :: ts, r :: rs, L, hL, hs, hr, h => by
    obtain ⟨h1, h2⟩ := hs p List.mem_cons_self
    have hb := hr r List.mem_cons_self
    have q1 : BdL d n (setAt L p.1 r) := (bd_at (setAt_len hL)).mpr fun s hs => by
      rw [at_set hL h1]
      split
      · exact hb
      · exact (bd_at hL).mp h s hs
    have q2 : BdL d n (setAt (setAt L p.1 r) p.2 r) := (bd_at (setAt_len (setAt_len hL))).mpr fun s hs => by
      rw [at_set (setAt_len hL) h2]
      split
      · exact hb
      · exact (bd_at (setAt_len hL)).mp q1 s hs
    exact bd_share (ts := ts) (rs := rs) (setAt_len (setAt_len hL)) (fun x hx => hs x (List.mem_cons_of_mem _ hx)) (fun x hx => hr x (List.mem_cons_of_mem _ hx)) q2
theorem bd_beat {M : Mach} (hM : MOk M) {d n : Nat} {L : List (List Rat)} (h : LOk M.cs L) (hb : BdL d n L) : BdL (d * 2) n (beatL M L) := by
  have hs : BdL (d * 2) n (shareL M.ts (readL M L) L) := bd_share h (fun p hp => ⟨(hM.sp p hp).1, (hM.sp p hp).2.1⟩) (fun q hq => by
    obtain ⟨p, hp, rfl⟩ := List.mem_map.mp hq
    exact ((bd_at h).mp hb _ (hM.sp p hp).1).mean ((bd_at h).mp hb _ (hM.sp p hp).2.1)) fun r hr q hq => (hb r hr q hq).mul (by decide)
  intro r hr q hq
  unfold beatL rollL at hr
  obtain ⟨r', hr', rfl⟩ := List.mem_map.mp hr
  refine hs r' hr' q ?_
  unfold rollR at hq
  rcases List.mem_append.mp hq with z | z
  · exact List.mem_of_mem_drop z
  · exact List.mem_of_mem_take z
theorem bd_it {M : Mach} (hM : MOk M) {d n : Nat} {L : List (List Rat)} (h : LOk M.cs L) (hb : BdL d n L) : ∀ k, BdL (d * 2 ^ k) n (itB M k L)
  | 0 => by rw [Nat.pow_zero, Nat.mul_one]; exact hb
  | k + 1 => by
    have := bd_beat hM (it_ok h k) (bd_it hM h hb k)
    rw [Nat.pow_succ, ← Nat.mul_assoc]
    exact this
theorem sz_it {M : Mach} (hM : MOk M) {d n k : Nat} {L : List (List Rat)} (h : LOk M.cs L) (hb : BdL d n L) (m : Nat) (h1 : n * (d * 2 ^ m) < 2 ^ k) (h2 : d * 2 ^ m < 2 ^ k) : ∀ i, i ≤ m → SzL k (itB M i L) := fun i hi => by
  have hp : 2 ^ i ≤ 2 ^ m := Nat.pow_le_pow_right (by decide) hi
  exact (bd_it hM h hb i).sz (Nat.lt_of_le_of_lt (Nat.mul_le_mul_left _ (Nat.mul_le_mul_left _ hp)) h1) (Nat.lt_of_le_of_lt (Nat.mul_le_mul_left _ hp) h2)
theorem bd_add {cs : List Nat} {d n n' : Nat} {L L' : List (List Rat)} (h : LOk cs L) (h' : LOk cs L') (hb : BdL d n L) (hb' : BdL d n' L') : BdL d (n + n') (addL L L') :=
  (bd_at (add_ok h h')).mpr fun s hs => by
    rw [at_add h h' hs]
    exact ((bd_at h).mp hb s hs).add ((bd_at h').mp hb' s hs)
theorem bd_scale {cs : List Nat} {d n d' n' : Nat} {L : List (List Rat)} {c : Rat} (h : LOk cs L) (hb : BdL d n L) (hc : Bd d' n' c) : BdL (d * d') (n * n') (scaleL L c) :=
  (bd_at (scale_ok h)).mpr fun s hs => by
    rw [at_scale h hs]
    exact ((bd_at h).mp hb s hs).times hc
end Ewl
-- DN3
set_option Elab.async false
set_option linter.all false
set_option maxRecDepth 100000
set_option maxHeartbeats 4000000
set_option exponentiation.threshold 10000
/-! Machines that the laws draw. -/
namespace Ewl
open PySem L2
def minS (a b : Spot) : Spot := if sLt b a then b else a
def maxS (a b : Spot) : Spot := if sLt a b then b else a
def tDo (x : DS × List Spot × List (Spot × Spot)) : DS × List Spot × List (Spot × Spot) :=
  let n1 := x.2.1.length
  let d1 := (digI x.1 n1).toNat
  let s1 := digS x.1 n1
  let one := x.2.1.getD d1 (0, 0)
  let f1 := x.2.1.eraseIdx d1
  let n2 := f1.length
  let d2 := (digI s1 n2).toNat
  let far := f1.getD d2 (0, 0)
  (digS s1 n2, f1.eraseIdx d2, x.2.2 ++ [(minS one far, maxS one far)])
def tstep (x : DS × List Spot × List (Spot × Spot)) : DS × List Spot × List (Spot × Spot) := if 1 < x.2.1.length then tDo x else x
def titer (x : DS × List Spot × List (Spot × Spot)) : Nat → DS × List Spot × List (Spot × Spot)
  | 0 => x
  | n + 1 => tstep (titer x n)
def sortP (ps : List (Spot × Spot)) : List (Spot × Spot) := ps.mergeSort fun a b => !decide (pLt b a)
def ltX (T : Int) (st : DS) (cs : List Nat) : DS × List Spot × List (Spot × Spot) := titer (digS st (T + 1), (spotsL cs).flatten, []) (digI st (T + 1)).toNat
def lmX (M : Int) (st : DS) : DS × Mach := ((ltX 8 (lcX M st).1 (lcX M st).2).1, ⟨(lcX M st).2, sortP (ltX 8 (lcX M st).1 (lcX M st).2).2.2⟩)
structure TOk (cs : List Nat) (x : DS × List Spot × List (Spot × Spot)) : Prop where
  free : ∀ s ∈ x.2.1, SpOk cs s
  nd : (tSpots x.2.2 ++ x.2.1).Nodup
  sp : ∀ p ∈ x.2.2, SpOk cs p.1 ∧ SpOk cs p.2 ∧ sLt p.1 p.2
theorem sLt_tri {a b : Spot} (h : a ≠ b) : sLt a b ∨ sLt b a := by
  obtain ⟨a1, a2⟩ := a
  obtain ⟨b1, b2⟩ := b
  unfold sLt
  simp only
  by_cases h1 : a1 = b1
  · subst h1
    have : a2 ≠ b2 := fun e => h (by rw [e])
    omega
  · omega
theorem sLt_asymm {a b : Spot} (h : sLt a b) : ¬ sLt b a := by unfold sLt at *; omega
theorem sLt_trans {a b c : Spot} (h : sLt a b) (h' : sLt b c) : sLt a c := by unfold sLt at *; omega
theorem erase_perm {α : Type} {xs : List α} {n : Nat} {x : α} (h : xs[n]? = some x) : (x :: xs.eraseIdx n).Perm xs := by
  induction xs generalizing n with
  | nil => simp at h
  | cons y ys ih =>
    cases n with
    | zero =>
      simp at h
      subst h
      exact List.Perm.refl _
    | succ n =>
      simp at h
      rw [List.eraseIdx_cons_succ]
      exact (List.Perm.swap _ _ _).trans ((ih (by simpa using h)).cons _)
theorem tstep_ok {cs : List Nat} {x : DS × List Spot × List (Spot × Spot)} (h : TOk cs x) : TOk cs (tstep x) := by
  unfold tstep
  split
  · rename_i hl
    obtain ⟨s, free, found⟩ := x
    simp only at hl
    have hd := dig_lt (s := s) (n := (free.length : Nat)) (by omega)
    unfold tDo
    simp only
    generalize hk : (digI s (free.length : Nat)).toNat = k1
    have hk1 : k1 < free.length := by omega
    generalize digS s (free.length : Nat) = s1
    have e1 : free[k1]? = some (free.getD k1 (0, 0)) := by simp [hk1]
    generalize free.getD k1 (0, 0) = one at e1
    have p1 := erase_perm e1
    have l1 : (free.eraseIdx k1).length = free.length - 1 := by rw [List.length_eraseIdx]; simp [hk1]
    generalize free.eraseIdx k1 = f1 at p1 l1
    have hd2 := dig_lt (s := s1) (n := (f1.length : Nat)) (by omega)
    generalize hk' : (digI s1 (f1.length : Nat)).toNat = k2
    have hk2 : k2 < f1.length := by omega
    have e2 : f1[k2]? = some (f1.getD k2 (0, 0)) := by simp [hk2]
    generalize f1.getD k2 (0, 0) = far at e2
    have p2 := erase_perm e2
    generalize f1.eraseIdx k2 = f2 at p2
    have pp : (one :: far :: f2).Perm free := (p2.cons one).trans p1
    have hnd := h.nd
    have hfree := h.free
    have hsp := h.sp
    simp only at hnd hfree hsp
    have so : SpOk cs one := hfree one (pp.subset (by simp))
    have sf : SpOk cs far := hfree far (pp.subset (by simp))
    have nd2 : (tSpots found ++ (one :: far :: f2)).Nodup := (List.Perm.append_left (tSpots found) pp).nodup_iff.mpr hnd
    have ne : one ≠ far := by
      rw [List.nodup_append] at nd2
      have := nd2.2.1
      simp at this
      exact this.1.1
    have pr : ([minS one far, maxS one far] : List Spot).Perm [one, far] ∧ sLt (minS one far) (maxS one far) := by
      unfold minS maxS
      rcases sLt_tri ne with q | q
      · rw [if_neg (sLt_asymm q), if_pos q]; exact ⟨List.Perm.refl _, q⟩
      · rw [if_pos q, if_neg (sLt_asymm q)]; exact ⟨List.Perm.swap _ _ _, q⟩
    refine ⟨fun s hs => hfree s (pp.subset (by simp [hs])), ?_, fun p hp => ?_⟩
    · have e : tSpots (found ++ [(minS one far, maxS one far)]) ++ f2 = tSpots found ++ ([minS one far, maxS one far] ++ f2) := by simp [tSpots]
      simp only
      rw [e]
      exact (List.Perm.append_left (tSpots found) (List.Perm.append_right f2 pr.1)).nodup_iff.mpr nd2
    · rcases List.mem_append.mp hp with z | z
      · exact hsp p z
      · rw [List.mem_singleton.mp z]
        have m1 : minS one far = one ∨ minS one far = far := by unfold minS; split <;> simp
        have m2 : maxS one far = one ∨ maxS one far = far := by unfold maxS; split <;> simp
        refine ⟨?_, ?_, pr.2⟩
        · rcases m1 with q | q <;> simp only [q] <;> assumption
        · rcases m2 with q | q <;> simp only [q] <;> assumption
  · exact h
theorem tstep_dok {b : Nat} {x : DS × List Spot × List (Spot × Spot)} (h : DOk b x.1) : DOk (b + 2) (tstep x).1 := by
  unfold tstep
  split
  · exact dig_ok (dig_ok h)
  · exact h.mono (by omega)
theorem tstep_len (x : DS × List Spot × List (Spot × Spot)) : (tstep x).2.2.length ≤ x.2.2.length + 1 := by
  unfold tstep
  split
  · simp [tDo]
  · omega
theorem titer_ok {cs : List Nat} {b : Nat} {x : DS × List Spot × List (Spot × Spot)} (h : TOk cs x) (hb : DOk b x.1) (h0 : x.2.2 = []) : ∀ n, TOk cs (titer x n) ∧ DOk (b + 2 * n) (titer x n).1 ∧ (titer x n).2.2.length ≤ n
  | 0 => ⟨h, hb, by simp [titer, h0]⟩
  | n + 1 => by
    obtain ⟨h1, h2, h3⟩ := titer_ok h hb h0 n
    refine ⟨tstep_ok h1, (tstep_dok h2).mono (by omega), ?_⟩
    have := tstep_len (titer x n)
    show (tstep (titer x n)).2.2.length ≤ n + 1
    omega
theorem pLt_trans {a b c : Spot × Spot} (h : pLt a b) (h' : pLt b c) : pLt a c := by
  unfold pLt at *
  rcases h with h | ⟨h1, h2⟩
  · rcases h' with h' | ⟨h3, h4⟩
    · exact .inl (sLt_trans h h')
    · rw [← h3]; exact .inl h
  · rcases h' with h' | ⟨h3, h4⟩
    · rw [h1]; exact .inl h'
    · exact .inr ⟨h1.trans h3, sLt_trans h2 h4⟩
theorem pLt_tri {a b : Spot × Spot} (h : a ≠ b) : pLt a b ∨ pLt b a := by
  unfold pLt
  by_cases h1 : a.1 = b.1
  · have h2 : a.2 ≠ b.2 := fun e => h (Prod.ext h1 e)
    rcases sLt_tri h2 with q | q
    · exact .inl (.inr ⟨h1, q⟩)
    · exact .inr (.inr ⟨h1.symm, q⟩)
  · rcases sLt_tri h1 with q | q
    · exact .inl (.inl q)
    · exact .inr (.inl q)
theorem sLt_irrefl (a : Spot) : ¬ sLt a a := by unfold sLt; omega
theorem pLt_irrefl (a : Spot × Spot) : ¬ pLt a a := by
  unfold pLt
  rintro (h | ⟨_, h⟩)
  · exact sLt_irrefl _ h
  · exact sLt_irrefl _ h
theorem le_trans' (a b c : Spot × Spot) (h : (!decide (pLt b a)) = true) (h' : (!decide (pLt c b)) = true) : (!decide (pLt c a)) = true := by
  simp only [Bool.not_eq_true', decide_eq_false_iff_not] at *
  intro q
  by_cases e : a = b
  · subst e; exact h' q
  · rcases pLt_tri e with z | z
    · exact h' (pLt_trans q z)
    · exact h z
theorem sortP_ok {ps : List (Spot × Spot)} (nd : (tSpots ps).Nodup) : (sortP ps).Perm ps ∧ (sortP ps).Pairwise pLt := by
  have hp : (sortP ps).Perm ps := List.mergeSort_perm _ _
  refine ⟨hp, ?_⟩
  have hs : (sortP ps).Pairwise fun a b => (!decide (pLt b a)) = true := List.pairwise_mergeSort (le := fun a b => !decide (pLt b a)) (fun a b c h h' => le_trans' a b c h h') (fun a b => by
    simp only [Bool.or_eq_true, Bool.not_eq_true', decide_eq_false_iff_not]
    by_cases q : pLt b a
    · right; intro z; exact pLt_irrefl _ (pLt_trans q z)
    · exact .inl q) ps
  have hn : ps.Nodup := by
    unfold tSpots at nd
    unfold List.Nodup at nd ⊢
    rw [List.flatMap_def, List.pairwise_flatten] at nd
    have := nd.2
    rw [List.pairwise_map] at this
    exact this.imp fun {a b} h e => by subst e; exact h a.1 (by simp) a.1 (by simp) rfl
  have hn' : (sortP ps).Nodup := hp.nodup_iff.mpr hn
  refine List.Pairwise.imp₂ (fun a b h1 h2 => ?_) hs hn'
  simp only [Bool.not_eq_true', decide_eq_false_iff_not] at h1
  rcases pLt_tri h2 with z | z
  · exact z
  · exact absurd z h1
theorem tSpots_perm {ps qs : List (Spot × Spot)} (h : ps.Perm qs) : (tSpots ps).Perm (tSpots qs) := h.flatMap_right _
/-- a machine that the law draws -/
theorem lm_ok {M : Int} (hM : 1 ≤ M) (hM1 : M ≤ 30) {st : DS} {b : Nat} (h : DOk b st) : DOk (b + 25) (lmX M st).1 ∧ MOk (lmX M st).2 ∧ ((lmX M st).2.cs.sum : Int) ≤ M := by
  obtain ⟨h1, ⟨hp, hs⟩, h2, h3⟩ := lc_ok hM h
  have hdg := dig_lt (s := (lcX M st).1) (n := 8 + 1) (by decide)
  have t0 : TOk (lcX M st).2 (digS (lcX M st).1 (8 + 1), (spotsL (lcX M st).2).flatten, []) := ⟨fun s hs => spots_mem.mp hs, by simpa [tSpots] using spots_nd _, by simp⟩
  obtain ⟨⟨_, nd, sp⟩, tb, tl⟩ := titer_ok t0 (b := b + 9) (dig_ok h1) rfl (digI (lcX M st).1 (8 + 1)).toNat
  have ndf : (tSpots (ltX 8 (lcX M st).1 (lcX M st).2).2.2).Nodup := (List.nodup_append.mp nd).1
  obtain ⟨pm, pw⟩ := sortP_ok ndf
  refine ⟨tb.mono (by omega), ⟨h2, by show (lcX M st).2.length ≤ 16; omega, fun c hc => (hp c hc).1, by show (lcX M st).2.sum ≤ 30; omega, ?_, fun p hp => sp p (pm.subset hp), fun i p q hi hj => ?_, (tSpots_perm pm).nodup_iff.mpr ndf⟩, hs⟩
  · show (sortP (ltX 8 (lcX M st).1 (lcX M st).2).2.2).length ≤ 8
    rw [pm.length_eq]
    have : (ltX 8 (lcX M st).1 (lcX M st).2).2.2.length ≤ (digI (lcX M st).1 (8 + 1)).toNat := tl
    omega
  · have hj' := List.getElem?_eq_some_iff.mp hj
    have hi' := List.getElem?_eq_some_iff.mp hi
    obtain ⟨hj1, hj2⟩ := hj'
    obtain ⟨hi1, hi2⟩ := hi'
    have := List.pairwise_iff_getElem.mp pw i (i + 1) hi1 hj1 (by omega)
    have e1 : (sortP (ltX 8 (lcX M st).1 (lcX M st).2).2.2)[i] = p := hi2
    have e2 : (sortP (ltX 8 (lcX M st).1 (lcX M st).2).2.2)[i + 1] = q := hj2
    rw [← e1, ← e2]
    exact this
theorem srt_map (ps : List (Spot × Spot)) : srtD (ps.map pD) = (sortP ps).map pD := by
  unfold srtD sortP
  symm
  apply List.map_mergeSort
  intro a _ b _
  rw [PySem.W.dataLe_eq]
  show _ = !PySem.W.dataLt (pD b) (pD a)
  rw [dataLt_p]
theorem alikeAll_s (a b : Spot) : PySem.W.AlikeAll [sD a, sD b] := by
  refine ⟨fun x hx y hy => ?_, fun x hx => ?_⟩
  · simp at hx hy
    rcases hx with rfl | rfl <;> rcases hy with rfl | rfl <;> exact alike_s _ _
  · simp at hx
    rcases hx with rfl | rfl <;> simp [sD]
theorem depthAll_s (a b : Spot) : PyData.depthAll [sD a, sD b] ≤ 8 := Nat.le_trans (sh_all (n := 1) fun d hd => by
  simp at hd
  rcases hd with rfl | rfl <;> exact sh_sD _).2 (by decide)
theorem flat_take {α : Type} {L : List (List α)} {i : Nat} {l : List α} (h : L[i]? = some l) : (L.take (i + 1)).flatten = (L.take i).flatten ++ l := by
  rw [take_more h, List.flatten_append]; simp
theorem titer_free (x : DS × List Spot × List (Spot × Spot)) : ∀ n, (titer x n).2.1.length ≤ x.2.1.length
  | 0 => Nat.le_refl _
  | n + 1 => by
    have := titer_free x n
    refine Nat.le_trans ?_ this
    show (tstep (titer x n)).2.1.length ≤ _
    unfold tstep
    split
    · unfold tDo
      simp only [List.length_eraseIdx]
      split <;> split <;> omega
    · exact Nat.le_refl _
theorem map_erase {α β : Type} (f : α → β) : ∀ (xs : List α) (n : Nat), (xs.map f).eraseIdx n = (xs.eraseIdx n).map f
  | [], _ => rfl
  | _ :: _, 0 => rfl
  | x :: xs, n + 1 => by simp [map_erase f xs n]
theorem spots_get {cs : List Nat} {i c : Nat} (hc : cs[i]? = some c) : (spotsL cs)[i]? = some ((List.range c).map fun p => (i, p)) := by
  have hi := (List.getElem?_eq_some_iff.mp hc).1
  unfold spotsL
  rw [List.getElem?_map, List.getElem?_range hi, Option.map_some, List.getD_eq_getElem?_getD, hc]; rfl
theorem sum_take_le (cs : List Nat) (i : Nat) : (cs.take i).sum ≤ cs.sum := by
  conv => rhs; rw [← List.take_append_drop i cs]
  rw [List.sum_append]; omega
theorem len_take_le {α : Type} (L : List (List α)) (i : Nat) : ((L.take i).flatten).length ≤ L.flatten.length := by
  conv => rhs; rw [← List.take_append_drop i L]
  rw [List.flatten_append, List.length_append]; omega
theorem alike_ps (ps : List (Spot × Spot)) : PySem.W.AllAlike (ps.map pD) := by
  intro d hd e he
  obtain ⟨p, _, rfl⟩ := List.mem_map.mp hd
  obtain ⟨q, _, rfl⟩ := List.mem_map.mp he
  exact alike_p p q
theorem sortable_ps (ps : List (Spot × Spot)) : PySem.W.Sortable (ps.map pD) := .inl fun d hd => by
  obtain ⟨p, _, rfl⟩ := List.mem_map.mp hd
  exact ⟨_, _, rfl⟩
theorem depth_ps (ps : List (Spot × Spot)) : ∀ d ∈ ps.map pD, d.depth ≤ 8 := fun d hd => by
  obtain ⟨p, _, rfl⟩ := List.mem_map.mp hd
  exact Nat.le_trans (sh_pD p).2 (by decide)
theorem min_sD (a b : Spot) : biD .min [sD a, sD b] = .ok (sD (minS a b)) := by
  rw [bi_min2 (alikeAll_s a b) (depthAll_s a b), dataLt_s]
  unfold minS
  by_cases h : sLt b a <;> simp [h]
theorem max_sD (a b : Spot) : biD .max [sD a, sD b] = .ok (sD (maxS a b)) := by
  rw [bi_max2 (alikeAll_s a b) (depthAll_s a b), dataLt_s]
  unfold maxS
  by_cases h : sLt a b <;> simp [h]
/-- the spots of the first wheels -/
def frD (cs : List Nat) (i : Nat) : List PyData := ((spotsL cs).take i).flatten.map sD
theorem frD_next {cs : List Nat} {i c : Nat} (hc : cs[i]? = some c) : frD cs (i + 1) = frD cs i ++ (List.range c).map fun p => sD (i, p) := by
  unfold frD
  rw [flat_take (spots_get hc), List.map_append, List.map_map]; rfl
theorem frD_len (cs : List Nat) (i : Nat) : (frD cs i).length ≤ cs.sum := by
  unfold frD
  rw [List.length_map, ← spots_len]
  exact len_take_le _ _
theorem frD_all (cs : List Nat) : frD cs cs.length = (spotsL cs).flatten.map sD := by
  unfold frD
  rw [List.take_of_length_le (by simp [spotsL])]
/-- the free spots, the touches found, as data -/
def tfD (x : DS × List Spot × List (Spot × Spot)) : List PyData := x.2.1.map sD
def ttD (x : DS × List Spot × List (Spot × Spot)) : List PyData := x.2.2.map pD
theorem z_touches {M T : Int} {s : DS} {cs : List Nat} (b : Nat) (hb : DOk b s) (hb1 : b ≤ 800000) (hC : COk M cs) (hM : M ≤ 100) (hT : 0 ≤ T) (hT1 : T ≤ 1000) : allP F__law_touches (dsK s) [cD cs, .int T] = .ok (dsK (ltX T s cs).1, tD (sortP (ltX T s cs).2.2)) := by
  unfold F__law_touches i__law_touches
  have d1 := z_digit (s := s) (n := T + 1) b hb (by omega) (by omega) (by omega)
  have hdg := dig_lt (s := s) (n := T + 1) (by omega)
  have hs : cs.sum ≤ 100 := by have := hC.sum; omega
  have t0 : TOk cs (digS s (T + 1), (spotsL cs).flatten, []) := ⟨fun s hs => spots_mem.mp hs, by simpa [tSpots] using spots_nd _, by simp⟩
  have hit := fun n => titer_ok t0 (b := b + 1) (dig_ok hb) rfl n
  have hfl : (spotsL cs).flatten.length ≤ 100 := by rw [spots_len]; exact hs
  have hsl : (spotsL cs).length = cs.length := by simp [spotsL]
  have hr : rngOk (digI s (T + 1)) := ⟨by omega, by omega⟩
  refine allP_ret rfl fun a => ?_
  unfold cD
  simp
  refine for_goS (fun i (t : Sl × Sl) => [.dk (some a) (dsK s), .d (cD cs), .d (.int T), .l (frD cs i), .l [], t.1, t.2, .x, .x, .x, .x]) (.x, .x) rfl (fun i d t hd => ?_) (fun t => ?_)
  · obtain ⟨x, hx, rfl⟩ := enum_item hd
    obtain ⟨z, hz, rfl⟩ := map_get hx
    obtain ⟨c, hc, rfl⟩ := zs_get hz
    have hle := le_sum (List.mem_of_getElem? hc)
    have hl := frD_len cs i
    have hrc : rngOk (c : Int) := ⟨by omega, by omega⟩
    refine ⟨(.d (.int i), .d (.int c)), ?_⟩
    simp [hrc]
    rw [kLc_eq (by simp; omega) (by decide)]
    simp
    rw [lcF_rng (fun p => sD (i, p)) fun p hp => by simp; rfl]
    simp [show (frD cs i).length + c ≤ 100000 by omega, frD_next hc]
  · rw [show (enumD 0 (List.map PyData.int (zs cs))).length = cs.length by simp [zs_len]]
    simp [d1, hr]
    refine for_goS (fun i (u : Sl × Sl × Sl) => [.dk (some a) (dsK (titer (digS s (T + 1), (spotsL cs).flatten, []) i).1), .d (cD cs), .d (.int T), .l (tfD (titer (digS s (T + 1), (spotsL cs).flatten, []) i)), .l (ttD (titer (digS s (T + 1), (spotsL cs).flatten, []) i)), t.1, t.2, u.1, u.2.1, u.2.2, .x]) (.x, .x, .x) (by rw [frD_all]; rfl) (fun i d u hd => ?_) (fun u => ?_)
    · obtain ⟨hi, rfl⟩ := rng_item hd
      obtain ⟨q1, q2, q3⟩ := hit i
      have q4 := titer_free (digS s (T + 1), (spotsL cs).flatten, []) i
      show ∃ t' : Sl × Sl × Sl, _ = Oc.ok (Res.nx [.dk (some a) (dsK (tstep (titer (digS s (T + 1), (spotsL cs).flatten, []) i)).1), .d (cD cs), .d (.int T), .l (tfD (tstep (titer (digS s (T + 1), (spotsL cs).flatten, []) i))), .l (ttD (tstep (titer (digS s (T + 1), (spotsL cs).flatten, []) i))), t.1, t.2, t'.1, t'.2.1, t'.2.2, .x])
      generalize titer (digS s (T + 1), (spotsL cs).flatten, []) i = x at *
      obtain ⟨st, free, found⟩ := x
      simp only at q2 q3 q4
      by_cases hf : 1 < free.length
      · have e1 := z_digit (s := st) (n := free.length) (b + 1 + 2 * i) q2 (by omega) (by omega) (by omega)
        have g1 := dig_lt (s := st) (n := free.length) (by omega)
        have hf' : (1 : Int) < free.length := by omega
        have ets : tstep (st, free, found) = tDo (st, free, found) := if_pos hf
        rw [ets]
        unfold tDo
        simp only
        generalize hk : (digI st (free.length : Nat)).toNat = k1
        have hk1 : k1 < free.length := by omega
        have e2 : free[k1]? = some (free.getD k1 (0, 0)) := by simp [hk1]
        generalize free.getD k1 (0, 0) = one at e2
        have l1 : (free.eraseIdx k1).length = free.length - 1 := by rw [List.length_eraseIdx]; simp [hk1]
        have me := map_erase sD free k1
        generalize free.eraseIdx k1 = f1 at l1 me
        have e3 := z_digit (s := digS st free.length) (n := f1.length) (b + 1 + 2 * i + 1) (dig_ok q2) (by omega) (by omega) (by omega)
        have g2 := dig_lt (s := digS st free.length) (n := f1.length) (by omega)
        generalize hk' : (digI (digS st free.length) (f1.length : Nat)).toNat = k2
        have hk2 : k2 < f1.length := by omega
        have e4 : f1[k2]? = some (f1.getD k2 (0, 0)) := by simp [hk2]
        generalize f1.getD k2 (0, 0) = far at e4
        have me2 := map_erase sD f1 k2
        generalize f1.eraseIdx k2 = f2 at me2
        refine ⟨(.d (.int i), .d (sD one), .d (sD far)), ?_⟩
        simp [tfD, ttD, hf', e1, g1.1, hk, show free.length ≤ 100000 by omega, e2, me]
        simp [e3, g2.1, hk', show f1.length ≤ 100000 by omega, e4, me2]
        simp [min_sD, max_sD, show found.length ≤ 100000 by omega, pD]
      · refine ⟨(.d (.int i), u.2.1, u.2.2), ?_⟩
        have hf' : ¬ (1 : Int) < free.length := by omega
        simp [tfD, hf', tstep, hf]
    · rw [show titer (digS s (T + 1), (spotsL cs).flatten, []) (rngD 0 (digI s (T + 1)).toNat).length = ltX T s cs by rw [rl_eq]; rfl]
      simp [ttD]
      rw [bl_sortedL (alike_ps _) (sortable_ps _) (depth_ps _), srt_map]
      simp
      rfl
theorem z_machine {M : Int} {s : DS} (b : Nat) (hb : DOk b s) (hb1 : b ≤ 700000) (hM : 1 ≤ M) (hM1 : M ≤ 30) : allP F__law_machine (dsK s) [.int M] = .ok (dsK (lmX M s).1, mD (lmX M s).2) := by
  unfold F__law_machine i__law_machine
  have h1 := z_counts (s := s) b hb (by omega) hM (by omega)
  obtain ⟨q1, q2, _⟩ := lc_ok (M := M) (by omega) hb
  have h2 := z_touches (T := 8) (s := (lcX M s).1) (cs := (lcX M s).2) (b + 8) q1 (by omega) q2 (by omega) (by omega) (by omega)
  refine allP_ret rfl fun a => ?_
  simp [h1, h2]
  exact ⟨rfl, rfl⟩
end Ewl
-- DN4
set_option Elab.async false
set_option linter.all false
set_option maxRecDepth 100000
set_option maxHeartbeats 4000000
set_option exponentiation.threshold 10000
/-! Fractions, loads that the laws draw; what the laws read. -/
namespace Ewl
open PySem L2
def euc (a b : Nat) : Nat → Nat × Nat
  | 0 => (a, b)
  | n + 1 => ((euc a b n).2, (euc a b n).1 % (euc a b n).2)
theorem euc_shift (a b : Nat) : ∀ n, euc a b (n + 1) = euc b (a % b) n
  | 0 => rfl
  | n + 1 => by
    have := euc_shift a b n
    show ((euc a b (n + 1)).2, (euc a b (n + 1)).1 % (euc a b (n + 1)).2) = _
    rw [this]; rfl
theorem euc_end : ∀ (k a b : Nat), b < 2 ^ k → ∃ n, n ≤ 2 * k ∧ (∀ i, i < n → (euc a b i).2 ≠ 0) ∧ euc a b n = (Nat.gcd a b, 0)
  | 0, a, b, h => by
    have : b = 0 := by simpa using h
    subst this
    exact ⟨0, by omega, fun i hi => absurd hi (Nat.not_lt_zero i), by simp [euc]⟩
  | k + 1, a, b, h => by
    by_cases hb : b = 0
    · subst hb; exact ⟨0, by omega, fun i hi => absurd hi (Nat.not_lt_zero i), by simp [euc]⟩
    · by_cases hr : a % b = 0
      · refine ⟨1, by omega, fun i hi => ?_, ?_⟩
        · have : i = 0 := by omega
          subst this; exact hb
        · show (b, a % b) = _
          rw [hr, Nat.gcd_comm, Nat.gcd_rec b a, hr, Nat.gcd_zero_left]
      · have h1 : a % b < b := Nat.mod_lt _ (by omega)
        have h2 : b % (a % b) < a % b := Nat.mod_lt _ (by omega)
        have h3 : b % (a % b) < 2 ^ k := by
          have := Nat.div_add_mod b (a % b)
          have h4 : 1 ≤ b / (a % b) := (Nat.one_le_div_iff (by omega)).mpr (by omega)
          have h5 : (a % b) * 1 ≤ (a % b) * (b / (a % b)) := Nat.mul_le_mul_left _ h4
          rw [Nat.pow_succ] at h
          omega
        obtain ⟨n, hn, h4, h5⟩ := euc_end k (a % b) (b % (a % b)) h3
        refine ⟨n + 2, by omega, fun i hi => ?_, ?_⟩
        · match i with
          | 0 => exact hb
          | 1 => exact hr
          | i + 2 => rw [euc_shift, euc_shift]; exact h4 i (by omega)
        · rw [euc_shift, euc_shift, h5]
          rw [Nat.gcd_comm (a % b), ← Nat.gcd_rec, ← Nat.gcd_rec, Nat.gcd_comm]
theorem gcd_le {t b : Int} (h : 0 < b) : (0 : Int) < ((Nat.gcd t.natAbs b.natAbs : Nat) : Int) ∧ Nat.gcd t.natAbs b.natAbs ≤ b.natAbs := by
  have h1 := Nat.gcd_pos_of_pos_right t.natAbs (n := b.natAbs) (by omega)
  have h2 := Nat.gcd_le_right t.natAbs (n := b.natAbs) (by omega)
  omega
theorem pow_le_8000 {a : Nat} {k : Nat} (h : a < 2 ^ k) (hk : k ≤ 8000 := by omega) : a < 2 ^ 8000 := Nat.lt_of_lt_of_le h (Nat.pow_le_pow_right (by decide) hk)
theorem z_llow {t b : Int} (h : 0 < b) (hz : b.natAbs < 2 ^ 8000) : F__law_lowest [.int t, .int b] = .ok (fD (Rat.divInt t b)) := by
  unfold F__law_lowest i__law_lowest
  obtain ⟨n, hn0, hn, he⟩ := euc_end 8000 t.natAbs b.natAbs hz
  have hl : (Nat.gcd t.natAbs b.natAbs).log2 < 9000 := by
    have := log_lt (k := 8000) (by omega) (Nat.lt_of_le_of_lt (gcd_le (t := t) h).2 hz)
    omega
  refine runD_go rfl ?_
  simp
  have ea : (if t < 0 then -t else t) = ((t.natAbs : Nat) : Int) := by split <;> omega
  have eb : b = ((b.natAbs : Nat) : Int) := by omega
  rw [whlF_inv (fun i => [.d (.int t), .d (.int b), .d (.int ((euc t.natAbs b.natAbs i).1 : Nat)), .d (.int ((euc t.natAbs b.natAbs i).2 : Nat))]) n (by omega) (by rw [ea]; show _ = [Sl.d (.int t), .d (.int b), .d (.int ((t.natAbs : Nat) : Int)), .d (.int ((b.natAbs : Nat) : Int))]; rw [← eb]) (fun i hi => ?_) (by simp [he])]
  · have g := gcd_le (t := t) h
    have e1 := bo_fdiv (i := t) g.1 (by rw [Int.natAbs_natCast]; exact hl)
    have e2 := bo_fdiv (i := b) g.1 (by rw [Int.natAbs_natCast]; exact hl)
    simp [he, e1, e2]
    exact low_fD h
  · have h0 := hn i hi
    have hp : (0 : Int) < ((euc t.natAbs b.natAbs i).2 : Nat) := by omega
    have e1 := bo_mod (i := ((euc t.natAbs b.natAbs i).1 : Nat)) hp
    simp [h0, e1]
    exact ⟨rfl, (Int.natCast_emod _ _).symm⟩
theorem mul_pos' (p q : Rat) : (0 : Int) < (p.den : Int) * (q.den : Int) := by
  have := p.den_pos
  have := q.den_pos
  exact Int.mul_pos (by omega) (by omega)
theorem den_sm {k : Nat} {q : Rat} (h : Sz k q) (hk : k ≤ 4000 := by omega) : Sm (q.den : Int) := sm_of (k := k) (by rw [Int.natAbs_natCast]; exact h.2)
theorem num_sm {k : Nat} {q : Rat} (h : Sz k q) (hk : k ≤ 4000 := by omega) : Sm q.num := sm_of (k := k) h.1
theorem den_mul {a b : Nat} {p q : Rat} (h1 : Sz a p) (h2 : Sz b q) (ha : a + b ≤ 8000) : ((p.den : Int) * (q.den : Int)).natAbs < 2 ^ 8000 := by
  rw [Int.natAbs_mul, Int.natAbs_natCast, Int.natAbs_natCast]
  exact pow_le_8000 (lt_mul2 h1.2 h2.2) ha
@[simp] theorem ix_f0 (q : Rat) : ixD (fD q) (.int 0) = .ok (.int q.num) := rf rfl
@[simp] theorem ix_f1 (q : Rat) : ixD (fD q) (.int 1) = .ok (.int (q.den : Int)) := rf rfl
theorem z_lplus {a b : Nat} {p q : Rat} (h1 : Sz a p) (h2 : Sz b q) (ha : a ≤ 4000) (hb : b ≤ 4000) : F__law_plus [fD p, fD q] = .ok (fD (p + q)) := by
  unfold F__law_plus i__law_plus
  refine runD_go rfl ?_
  have e := z_llow (t := p.num * q.den + q.num * p.den) (mul_pos' p q) (den_mul h1 h2 (by omega))
  simp [bo_mul, num_sm h1, num_sm h2, den_sm h1, den_sm h2, e]
  rw [divInt_plus]
theorem z_ltimes {a b : Nat} {p q : Rat} (h1 : Sz a p) (h2 : Sz b q) (ha : a ≤ 4000) (hb : b ≤ 4000) : F__law_times [fD p, fD q] = .ok (fD (p * q)) := by
  unfold F__law_times i__law_times
  refine runD_go rfl ?_
  have e := z_llow (t := p.num * q.num) (mul_pos' p q) (den_mul h1 h2 (by omega))
  simp [bo_mul, num_sm h1, num_sm h2, den_sm h1, den_sm h2, e]
  rw [divInt_times]
end Ewl
-- DN5
set_option Elab.async false
set_option linter.all false
set_option maxRecDepth 100000
set_option maxHeartbeats 4000000
set_option exponentiation.threshold 10000
/-! Loads that the laws draw; what the laws read. -/
namespace Ewl
open PySem L2
@[simp] theorem at_0 {α : Type} {a : α} {l : List α} : atI (a :: l) 0 = some a := at_nat (n := 0) rfl
@[simp] theorem at_1 {α : Type} {a b : α} {l : List α} : atI (a :: b :: l) 1 = some b := at_nat (n := 1) rfl
@[simp] theorem at_2 {α : Type} {a b c : α} {l : List α} : atI (a :: b :: c :: l) 2 = some c := at_nat (n := 2) rfl
@[simp] theorem ix_m0 (M : Mach) : ixD (mD M) (.int 0) = .ok (cD M.cs) := by unfold mD; simp
@[simp] theorem ix_m1 (M : Mach) : ixD (mD M) (.int 1) = .ok (tD M.ts) := by unfold mD; simp
@[simp] theorem sq_c {s : Sls} (cs : List Nat) : kSeq (s, cD cs) = .ok (s, (zs cs).map .int) := rf rfl
@[simp] theorem sq_tD {s : Sls} (ts : List (Spot × Spot)) : kSeq (s, tD ts) = .ok (s, ts.map pD) := rf rfl
@[simp] theorem sq_lD {s : Sls} (L : List (List Rat)) : kSeq (s, lD L) = .ok (s, L.map rowD) := rf rfl
@[simp] theorem sq_rowD {s : Sls} (r : List Rat) : kSeq (s, rowD r) = .ok (s, r.map fD) := rf rfl
@[simp] theorem en_c {s : Sls} (cs : List Nat) : kEnum (s, cD cs) = .ok (s, enumD 0 ((zs cs).map .int)) := rf rfl
@[simp] theorem en_tD {s : Sls} (ts : List (Spot × Spot)) : kEnum (s, tD ts) = .ok (s, enumD 0 (ts.map pD)) := rf rfl
@[simp] theorem en_lD {s : Sls} (L : List (List Rat)) : kEnum (s, lD L) = .ok (s, enumD 0 (L.map rowD)) := rf rfl
@[simp] theorem en_rowD {s : Sls} (r : List Rat) : kEnum (s, rowD r) = .ok (s, enumD 0 (r.map fD)) := rf rfl
@[simp] theorem ln_c (cs : List Nat) : lenD (cD cs) = .ok (.int (cs.length : Nat)) := by unfold cD; simp [zs_len]
@[simp] theorem ln_tD (ts : List (Spot × Spot)) : lenD (tD ts) = .ok (.int (ts.length : Nat)) := by unfold tD; simp
@[simp] theorem ln_lD (L : List (List Rat)) : lenD (lD L) = .ok (.int (L.length : Nat)) := by unfold lD; simp
@[simp] theorem ln_rowD (r : List Rat) : lenD (rowD r) = .ok (.int (r.length : Nat)) := by unfold rowD; simp
@[simp] theorem sum_c (cs : List Nat) : biD .sum [cD cs] = .ok (.int (cs.sum : Nat)) := by unfold cD; rw [bi_sumT, zs_sum]
theorem ix_c {cs : List Nat} {i c : Nat} (h : cs[i]? = some c) : ixD (cD cs) (.int (i : Nat)) = .ok (.int (c : Nat)) := by
  show ofO (atI ((zs cs).map PyData.int) (i : Nat)) = _
  rw [zs_at h]; rfl
theorem ix_l' {L : List (List Rat)} {i : Nat} {r : List Rat} (h : L[i]? = some r) : ixD (lD L) (.int (i : Nat)) = .ok (rowD r) := by
  show ofO (atI (L.map rowD) (i : Nat)) = _
  rw [at_nat (v := rowD r) (by rw [List.getElem?_map, h]; rfl)]; rfl
theorem ix_r {r : List Rat} {i : Nat} {q : Rat} (h : r[i]? = some q) : ixD (rowD r) (.int (i : Nat)) = .ok (fD q) := by
  show ofO (atI (r.map fD) (i : Nat)) = _
  rw [at_nat (v := fD q) (by rw [List.getElem?_map, h]; rfl)]; rfl
theorem ix_ts {ts : List (Spot × Spot)} {i : Nat} {p : Spot × Spot} (h : ts[i]? = some p) : ixD (tD ts) (.int (i : Nat)) = .ok (pD p) := by
  show ofO (atI (ts.map pD) (i : Nat)) = _
  rw [at_nat (v := pD p) (by rw [List.getElem?_map, h]; rfl)]; rfl
def rowIt (span : Int) (s : DS) : Nat → DS × List (Int × Int)
  | 0 => (s, [])
  | n + 1 => (digS (digS (rowIt span s n).1 (2 * span + 1)) 3, (rowIt span s n).2 ++ [(digI (rowIt span s n).1 (2 * span + 1) - span, 1 + digI (digS (rowIt span s n).1 (2 * span + 1)) 3)])
def rowQ (ps : List (Int × Int)) : List Rat := ps.map fun p => Rat.divInt p.1 p.2
def loadIt (span : Int) (cs : List Nat) (s : DS) : Nat → DS × List (List Rat)
  | 0 => (s, [])
  | n + 1 => ((rowIt span (loadIt span cs s n).1 (cs.getD n 0)).1, (loadIt span cs s n).2 ++ [rowQ (rowIt span (loadIt span cs s n).1 (cs.getD n 0)).2])
def llX (span : Int) (cs : List Nat) (s : DS) : DS × List (List Rat) := loadIt span cs s cs.length
def pairD (p : Int × Int) : PyData := .tuple [.int p.1, .int p.2]
theorem row_len (span : Int) (s : DS) : ∀ n, (rowIt span s n).2.length = n
  | 0 => rfl
  | n + 1 => by simp [rowIt, row_len span s n]
theorem row_get (span : Int) (s : DS) {i : Nat} : ∀ n, i < n → (rowIt span s n).2[i]? = some (digI (rowIt span s i).1 (2 * span + 1) - span, 1 + digI (digS (rowIt span s i).1 (2 * span + 1)) 3)
  | 0, h => by omega
  | n + 1, h => by
    show ((rowIt span s n).2 ++ [_])[i]? = _
    by_cases e : i = n
    · subst e
      rw [List.getElem?_append_right (by rw [row_len]; exact Nat.le_refl _), row_len, Nat.sub_self]; rfl
    · rw [List.getElem?_append_left (by rw [row_len]; omega)]
      exact row_get span s n (by omega)
theorem row_dok {b : Nat} {span : Int} {s : DS} (h : DOk b s) : ∀ n, DOk (b + 2 * n) (rowIt span s n).1
  | 0 => h
  | n + 1 => (dig_ok (dig_ok (row_dok h n))).mono (by omega)
theorem row_in {span : Int} {s : DS} (hs : 0 ≤ span) : ∀ n, ∀ p ∈ (rowIt span s n).2, -span ≤ p.1 ∧ p.1 ≤ span ∧ 1 ≤ p.2 ∧ p.2 ≤ 3
  | 0, p, hp => by simp [rowIt] at hp
  | n + 1, p, hp => by
    rcases List.mem_append.mp hp with z | z
    · exact row_in hs n p z
    · rw [List.mem_singleton.mp z]
      have h1 := dig_lt (s := (rowIt span s n).1) (n := 2 * span + 1) (by omega)
      have h2 := dig_lt (s := digS (rowIt span s n).1 (2 * span + 1)) (n := 3) (by decide)
      simp only
      omega
theorem load_ok {span : Int} {cs : List Nat} {s : DS} : ∀ n, n ≤ cs.length → LOk (cs.take n) (loadIt span cs s n).2
  | 0, _ => by simp [LOk, loadIt]
  | n + 1, h => by
    have ih := load_ok (span := span) (cs := cs) (s := s) n (by omega)
    have hc : cs[n]? = some (cs.getD n 0) := by
      have : n < cs.length := by omega
      simp [this]
    unfold LOk at *
    rw [take_more hc]
    show List.map List.length ((loadIt span cs s n).2 ++ [rowQ (rowIt span (loadIt span cs s n).1 (cs.getD n 0)).2]) = _
    rw [List.map_append, ih]
    simp [rowQ, row_len]
theorem load_dok {b : Nat} {span : Int} {cs : List Nat} {s : DS} (h : DOk b s) : ∀ n, n ≤ cs.length → DOk (b + 2 * (cs.take n).sum) (loadIt span cs s n).1
  | 0, _ => by simpa [loadIt] using h
  | n + 1, hn => by
    have ih := load_dok (span := span) (cs := cs) h n (by omega)
    have hc : cs[n]? = some (cs.getD n 0) := by
      have : n < cs.length := by omega
      simp [this]
    rw [take_more hc, List.sum_append]
    refine (row_dok ih (cs.getD n 0)).mono ?_
    simp
    omega
theorem cell_bd {t b : Int} {n : Nat} (h1 : -(n : Int) ≤ t) (h2 : t ≤ n) (h3 : 1 ≤ b) (h4 : b ≤ 3) : Bd 6 n (Rat.divInt t b) := by
  have hb : b = 1 ∨ b = 2 ∨ b = 3 := by omega
  rcases hb with rfl | rfl | rfl
  · exact ⟨by decide, t * 6, by rw [show (1 : Int) = ((1 : Nat) : Int) from rfl, Rat.divInt_ofNat, Rat.mkRat_eq_iff (by decide) (by decide)]; push_cast; omega, by omega⟩
  · exact ⟨by decide, t * 3, by rw [show (2 : Int) = ((2 : Nat) : Int) from rfl, Rat.divInt_ofNat, Rat.mkRat_eq_iff (by decide) (by decide)]; push_cast; omega, by omega⟩
  · exact ⟨by decide, t * 2, by rw [show (3 : Int) = ((3 : Nat) : Int) from rfl, Rat.divInt_ofNat, Rat.mkRat_eq_iff (by decide) (by decide)]; push_cast; omega, by omega⟩
theorem load_bd {span : Int} {m : Nat} (hs : span = (m : Nat)) {cs : List Nat} {s : DS} : ∀ n, BdL 6 m (loadIt span cs s n).2
  | 0 => fun r hr => by simp [loadIt] at hr
  | n + 1 => fun r hr q hq => by
    rcases List.mem_append.mp hr with z | z
    · exact load_bd hs n r z q hq
    · rw [List.mem_singleton.mp z] at hq
      obtain ⟨p, hp, rfl⟩ := List.mem_map.mp hq
      have := row_in (span := span) (by omega) _ p hp
      exact cell_bd (by omega) (by omega) this.2.2.1 this.2.2.2
theorem row_map (span : Int) (s : DS) (c : Nat) : (rowIt span s c).2.map pairD = (List.range c).map fun n => pairD (digI (rowIt span s n).1 (2 * span + 1) - span, 1 + digI (digS (rowIt span s n).1 (2 * span + 1)) 3) := by
  apply List.ext_getElem?
  intro i
  rw [List.getElem?_map, List.getElem?_map]
  by_cases h : i < c
  · rw [row_get span s c h, List.getElem?_range h]; rfl
  · rw [List.getElem?_eq_none (by rw [row_len]; omega), List.getElem?_eq_none (by simp; omega)]; rfl
theorem z_load {s : DS} {cs : List Nat} {span : Int} (b : Nat) (hb : DOk b s) (hb1 : b ≤ 800000) (hcs : cs.sum ≤ 100) (hcl : cs.length ≤ 100) (hs0 : 0 ≤ span) (hs1 : span ≤ 1000) : allP F__law_load (dsK s) [cD cs, .int span] = .ok (dsK (llX span cs s).1, lD (llX span cs s).2) := by
  unfold F__law_load i__law_load
  have m1 : Sm 2 := sm_lt (by decide)
  have m2 : Sm span := sm_of (k := 20) (by omega)
  refine allP_ret rfl fun a => ?_
  simp
  refine for_goS (fun i (t : Sl × Sl) => [.dk (some a) (dsK (loadIt span cs s i).1), .d (cD cs), .d (.int span), .l ((loadIt span cs s i).2.map rowD), t.1, t.2, .x, .x, .x]) (.x, .x) rfl (fun i d t hd => ?_) (fun t => ?_)
  · obtain ⟨z, hz, rfl⟩ := map_get hd
    obtain ⟨c, hc, rfl⟩ := zs_get hz
    have hi := (List.getElem?_eq_some_iff.mp hc).1
    have ec : cs.getD i 0 = c := by rw [List.getD_eq_getElem?_getD, hc]; rfl
    have hle := le_sum (List.mem_of_getElem? hc)
    have hsum := sum_take_le cs i
    have hD := load_dok (span := span) (cs := cs) hb i (by omega)
    have hLl : (loadIt span cs s i).2.length = i := by
      have := (load_ok (span := span) (cs := cs) (s := s) i (by omega)).len
      rw [this, List.length_take]; omega
    show ∃ t' : Sl × Sl, _ = Oc.ok (Res.nx [.dk (some a) (dsK (rowIt span (loadIt span cs s i).1 (cs.getD i 0)).1), .d (cD cs), .d (.int span), .l (((loadIt span cs s i).2 ++ [rowQ (rowIt span (loadIt span cs s i).1 (cs.getD i 0)).2]).map rowD), t'.1, t'.2, .x, .x, .x])
    rw [ec]
    generalize loadIt span cs s i = x at *
    obtain ⟨s1, L⟩ := x
    simp only at hD hLl
    have hrow := row_in (span := span) (s := s1) hs0 c
    have hrl := row_len span s1 c
    have hrd := fun n => row_dok (span := span) hD n
    have hrc : rngOk (c : Int) := ⟨by omega, by omega⟩
    refine ⟨(.d (.int c), .d (.list ((rowIt span s1 c).2.map pairD))), ?_⟩
    simp [hrc]
    rw [kLc_eq (by simp; omega) (by decide)]
    simp
    rw [lcF_inv (fun n => [.dk (some a) (dsK (rowIt span s1 n).1), .d (cD cs), .d (.int span), .l (L.map rowD), .d (.int (c : Nat)), t.2, .x, .x, .x]) (fun n => pairD (digI (rowIt span s1 n).1 (2 * span + 1) - span, 1 + digI (digS (rowIt span s1 n).1 (2 * span + 1)) 3)) (by rfl) fun n d hd => ?_]
    · rw [rl_eq, ← row_map]
      simp
      rw [kLc_eq (by simp [hrl]; omega) (by decide), lcF_map (fun p => fD (Rat.divInt p.1 p.2)) fun p hp => ?_]
      · simp [show L.length ≤ 100000 by omega]
        simp [rowD, rowQ]
      · have q := hrow p hp
        have e := z_llow (t := p.1) (b := p.2) (by omega) (pow_le_8000 (k := 20) (by omega))
        simp [pairD, e]
    · obtain ⟨hn, rfl⟩ := rng_item hd
      have e1 := z_digit (s := (rowIt span s1 n).1) (n := 2 * span + 1) (b + 2 * (cs.take i).sum + 2 * n) (hrd n) (by omega) (by omega) (by omega)
      have e2 := z_digit (s := digS (rowIt span s1 n).1 (2 * span + 1)) (n := 3) (b + 2 * (cs.take i).sum + 2 * n + 1) (dig_ok (hrd n)) (by omega) (by omega) (by omega)
      simp [bo_mul, m1, m2, e1, e2]
      exact ⟨rfl, rfl⟩
  · simp [zs_len]
    exact ⟨rfl, rfl⟩
end Ewl
-- DN6
set_option Elab.async false
set_option linter.all false
set_option maxRecDepth 100000
set_option maxHeartbeats 4000000
set_option exponentiation.threshold 10000
/-! What the laws do with loads. -/
namespace Ewl
open PySem L2
/-! a machine with a touch at the least -/
def mtX (M : Int) (s : DS) : DS × Mach := if (lmX M s).2.ts ≠ [] then lmX M s else (digS (digS (lmX M s).1 2) 3, ⟨[2, 3], [((0, (digI (lmX M s).1 2).toNat), (1, (digI (digS (lmX M s).1 2) 3).toNat))]⟩)
theorem shd_tD (ts : List (Spot × Spot)) : SeqAt.shaped (tD ts) = true := Sh.shaped (n := 3) (sh_tup fun d hd => by
  obtain ⟨p, _, rfl⟩ := List.mem_map.mp hd
  exact sh_pD p)
theorem mt_ok {M : Int} (hM : 5 ≤ M) (hM1 : M ≤ 30) {s : DS} {b : Nat} (h : DOk b s) : DOk (b + 27) (mtX M s).1 ∧ MOk (mtX M s).2 ∧ ((mtX M s).2.cs.sum : Int) ≤ M ∧ (mtX M s).2.ts ≠ [] := by
  obtain ⟨q1, q2, q3⟩ := lm_ok (M := M) (by omega) hM1 h
  unfold mtX
  split
  · rename_i hne
    exact ⟨q1.mono (by omega), q2, q3, hne⟩
  · have g1 := dig_lt (s := (lmX M s).1) (n := 2) (by decide)
    have g2 := dig_lt (s := digS (lmX M s).1 2) (n := 3) (by decide)
    refine ⟨(dig_ok (dig_ok q1)).mono (by omega), ⟨by simp, by simp, by simp, by simp, by simp, fun p hp => ?_, fun i p q h1 h2 => ?_, ?_⟩, by simp; omega, by simp⟩
    · rw [List.mem_singleton.mp hp]
      exact ⟨⟨2, rfl, by simp only; omega⟩, ⟨3, rfl, by simp only; omega⟩, .inl (show (0 : Nat) < 1 by decide)⟩
    · simp at h2
    · simp [tSpots]
theorem z_touching {M : Int} {s : DS} (b : Nat) (hb : DOk b s) (hb1 : b ≤ 600000) (hM : 5 ≤ M) (hM1 : M ≤ 30) : allP F__law_touching (dsK s) [.int M] = .ok (dsK (mtX M s).1, mD (mtX M s).2) := by
  unfold F__law_touching i__law_touching
  have h1 := z_machine (s := s) b hb (by omega) (M := M) (by omega) hM1
  obtain ⟨q1, q2, _⟩ := lm_ok (M := M) (by omega) hM1 hb
  have d1 := z_digit (s := (lmX M s).1) (n := 2) (b + 25) q1 (by omega) (by decide) (by decide)
  have d2 := z_digit (s := digS (lmX M s).1 2) (n := 3) (b + 25 + 1) (dig_ok q1) (by omega) (by decide) (by decide)
  have g1 := dig_lt (s := (lmX M s).1) (n := 2) (by decide)
  have g2 := dig_lt (s := digS (lmX M s).1 2) (n := 3) (by decide)
  have c1 : cmpD .ne (tD (lmX M s).2.ts) (.tuple []) = .ok (decide ((lmX M s).2.ts ≠ [])) := by
    rw [co_ne (shd_tD _) (by decide)]
    unfold tD
    cases (lmX M s).2.ts with
    | nil => rfl
    | cons p ps => rfl
  refine allP_ret rfl fun a => ?_
  by_cases h : (lmX M s).2.ts = []
  · have em : mtX M s = _ := if_neg (by simp [h])
    have c2 : decide ((lmX M s).2.ts ≠ []) = false := by simp [h]
    rw [c2] at c1
    rw [em]
    simp [h1, c1, d1, d2]
    simp [mD, cD, zs, tD, pD, sD, Int.toNat_of_nonneg g1.1, Int.toNat_of_nonneg g2.1]
  · have em : mtX M s = _ := if_pos h
    have c2 : decide ((lmX M s).2.ts ≠ []) = true := by simp [h]
    rw [c2] at c1
    rw [em]
    simp [h1, c1]
/-! a window -/
def wIt (s : DS) : Nat → DS × List Nat
  | 0 => (s, [])
  | k + 1 => (digS (wIt s k).1 2, (wIt s k).2 ++ if digI (wIt s k).1 2 = 1 then [k] else [])
def wX (n : Nat) (s : DS) : DS × List Nat := if (wIt s n).2 ≠ [] then wIt s n else (digS (wIt s n).1 n, [(digI (wIt s n).1 n).toNat])
theorem wIt_dok {b : Nat} {s : DS} (h : DOk b s) : ∀ n, DOk (b + n) (wIt s n).1
  | 0 => h
  | n + 1 => dig_ok (wIt_dok h n)
theorem wIt_in (s : DS) : ∀ n, (∀ w ∈ (wIt s n).2, w < n) ∧ (wIt s n).2.Pairwise (· < ·)
  | 0 => ⟨by simp [wIt], by simp [wIt]⟩
  | n + 1 => by
    obtain ⟨h1, h2⟩ := wIt_in s n
    unfold wIt
    split
    · refine ⟨fun w hw => ?_, ?_⟩
      · rcases List.mem_append.mp hw with z | z
        · have := h1 w z; omega
        · rw [List.mem_singleton.mp z]; omega
      · rw [List.pairwise_append]
        exact ⟨h2, by simp, fun x hx y hy => by rw [List.mem_singleton.mp hy]; exact h1 x hx⟩
    · rw [List.append_nil]; exact ⟨fun w hw => by have := h1 w hw; omega, h2⟩
theorem wIt_flat (s : DS) : ∀ n, ((List.range n).flatMap fun k => (if digI (wIt s k).1 2 = 1 then some (PyData.int (k : Nat)) else none).toList) = (zs (wIt s n).2).map .int
  | 0 => rfl
  | n + 1 => by
    rw [List.range_succ, List.flatMap_append, wIt_flat s n, wIt]
    by_cases h : digI (wIt s n).1 2 = 1
    · simp [h, zs]
    · simp [h, zs]
theorem w_ok {n : Nat} (hn : 1 ≤ n) {s : DS} {b : Nat} (h : DOk b s) : DOk (b + n + 1) (wX n s).1 ∧ (wX n s).2 ≠ [] ∧ (∀ w ∈ (wX n s).2, w < n) ∧ (wX n s).2.Pairwise (· < ·) := by
  have q := wIt_dok h n
  obtain ⟨q1, q2⟩ := wIt_in s n
  unfold wX
  split
  · rename_i hne
    exact ⟨q.mono (by omega), hne, q1, q2⟩
  · have g := dig_lt (s := (wIt s n).1) (n := n) (by omega)
    refine ⟨dig_ok q, by simp, fun w hw => ?_, by simp⟩
    rw [List.mem_singleton.mp hw]; omega
theorem shd_ints (is : List Int) : SeqAt.shaped (.list (is.map .int)) = true := Sh.shaped (n := 1) (sh_lst fun d hd => by
  obtain ⟨i, _, rfl⟩ := List.mem_map.mp hd
  exact sh_int i)
theorem z_window {M : Mach} {s : DS} (b : Nat) (hb : DOk b s) (hb1 : b ≤ 900000) (h1 : 1 ≤ M.ts.length) (h8 : M.ts.length ≤ 1000) : allP F__law_window (dsK s) [mD M] = .ok (dsK (wX M.ts.length s).1, cD (wX M.ts.length s).2) := by
  unfold F__law_window i__law_window
  have hr : rngOk (M.ts.length : Int) := ⟨by omega, by omega⟩
  refine allP_ret rfl fun a => ?_
  simp [hr]
  rw [kLcIf_eq (by simp; omega) (by decide)]
  simp
  rw [lcIfF_inv (fun k => [.dk (some a) (dsK (wIt s k).1), .d (mD M), .x, .x]) (fun k => if digI (wIt s k).1 2 = 1 then some (.int (k : Nat)) else none) (by rfl) fun k d hd => ?_]
  · rw [rl_eq, wIt_flat]
    have c1 : cmpD .ne (.list ((zs (wIt s M.ts.length).2).map .int)) (.list []) = .ok (decide ((wIt s M.ts.length).2 ≠ [])) := by
      rw [co_ne (shd_ints _) (by decide)]
      cases (wIt s M.ts.length).2 with
      | nil => rfl
      | cons p ps => rfl
    have e1 := z_digit (s := (wIt s M.ts.length).1) (n := M.ts.length) (b + M.ts.length) (wIt_dok hb _) (by omega) (by omega) (by omega)
    have g := dig_lt (s := (wIt s M.ts.length).1) (n := M.ts.length) (by omega)
    by_cases h : (wIt s M.ts.length).2 = []
    · have em : wX M.ts.length s = _ := if_neg (by simp [h])
      have c2 : decide ((wIt s M.ts.length).2 ≠ []) = false := by simp [h]
      rw [c2] at c1
      rw [em]
      simp [c1, e1]
      simp [cD, zs, Int.toNat_of_nonneg g.1]
    · have em : wX M.ts.length s = _ := if_pos h
      have c2 : decide ((wIt s M.ts.length).2 ≠ []) = true := by simp [h]
      rw [c2] at c1
      rw [em]
      simp [c1]
      rfl
  · obtain ⟨hk, rfl⟩ := rng_item hd
    have e1 := z_digit (s := (wIt s k).1) (n := 2) (b + k) (wIt_dok hb k) (by omega) (by decide) (by decide)
    by_cases h : digI (wIt s k).1 2 = 1
    · simp [e1, h]
      rfl
    · simp [e1, h]
      rfl
end Ewl
-- DN7
set_option Elab.async false
set_option linter.all false
set_option maxRecDepth 100000
set_option maxHeartbeats 4000000
set_option exponentiation.threshold 10000
/-! What the laws do with loads: laid flat, shaped, paired, read, a beat on. -/
namespace Ewl
open PySem L2
noncomputable section
def kFo (step : Sls → PyData → Oc Res) (ds : List PyData) : Res → Oc Res
  | .nx s' => forF step ds s'
  | .ret s' z => .ok (.ret s' z)
theorem fo_nil {step : Sls → PyData → Oc Res} {s : Sls} : forF step [] s = .ok (.nx s) := rfl
theorem fo_cons {step : Sls → PyData → Oc Res} {d : PyData} {ds : List PyData} {s : Sls} : forF step (d :: ds) s = step s d >>= kFo step ds := by
  show (step s d >>= _) = _
  congr 1
@[simp] theorem kFo_nx {step : Sls → PyData → Oc Res} {ds : List PyData} {s : Sls} : kFo step ds (.nx s) = forF step ds s := rf rfl
@[simp] theorem kFo_ret {step : Sls → PyData → Oc Res} {ds : List PyData} {s : Sls} {z : PyData} : kFo step ds (.ret s z) = .ok (.ret s z) := rf rfl
/-! flat -/
def flD (L : List (List Rat)) (i : Nat) : List PyData := ((L.take i).flatten).map fD
theorem flD_next {L : List (List Rat)} {i : Nat} {r : List Rat} (h : L[i]? = some r) : flD L (i + 1) = flD L i ++ r.map fD := by
  unfold flD; rw [flat_take h, List.map_append]
theorem flD_len (L : List (List Rat)) (i : Nat) : (flD L i).length ≤ L.flatten.length := by
  unfold flD; rw [List.length_map]; exact len_take_le _ _
theorem flD_all (L : List (List Rat)) : flD L L.length = L.flatten.map fD := by unfold flD; rw [List.take_length]
@[simp] theorem ex_row {s : Sls} {i : Nat} {r : List Rat} {xs : List PyData} : kExt3 i s (rowD r) xs = if xs.length + r.length ≤ 100000 then .ok (.nx (s.set i (.l (xs ++ r.map fD)))) else .un := by unfold rowD; simp
theorem z_flat {L : List (List Rat)} (h : L.flatten.length ≤ 10000) : F__law_flat [lD L] = .ok (.list (L.flatten.map fD)) := by
  unfold F__law_flat i__law_flat
  refine runD_go rfl ?_
  simp
  refine for_goD (fun i (t : Sl) => [.d (lD L), .l (flD L i), t]) .x rfl (fun i d t hd => ?_) (fun t => ?_)
  · obtain ⟨r, hr, rfl⟩ := map_get hd
    have h1 := flD_len L (i + 1)
    rw [flD_next hr, List.length_append, List.length_map] at h1
    refine ⟨.d (rowD r), ?_⟩
    simp [show (flD L i).length + r.length ≤ 100000 by omega, flD_next hr]
  · rw [List.length_map, flD_all]
    simp
/-! shaped -/
def splitL {α : Type} : List Nat → List α → List (List α)
  | [], _ => []
  | c :: cs, xs => xs.take c :: splitL cs (xs.drop c)
theorem split_ok : ∀ {cs : List Nat} {qs : List Rat}, qs.length = cs.sum → LOk cs (splitL cs qs) ∧ (splitL cs qs).flatten = qs
  | [], qs, h => by
    have : qs = [] := List.length_eq_zero_iff.mp (by simpa using h)
    subst this; exact ⟨rfl, rfl⟩
  | c :: cs, qs, h => by
    rw [List.sum_cons] at h
    obtain ⟨h1, h2⟩ := split_ok (cs := cs) (qs := qs.drop c) (by rw [List.length_drop]; omega)
    unfold LOk at h1 ⊢
    refine ⟨?_, ?_⟩
    · show (qs.take c).length :: (splitL cs (qs.drop c)).map List.length = _
      rw [h1, List.length_take]; congr 1; omega
    · show qs.take c ++ (splitL cs (qs.drop c)).flatten = _
      rw [h2, List.take_append_drop]
theorem split_flat : ∀ {cs : List Nat} {L : List (List Rat)}, LOk cs L → splitL cs L.flatten = L
  | [], L, h => by
    unfold LOk at h
    have : L = [] := List.map_eq_nil_iff.mp h
    subst this; rfl
  | c :: cs, L, h => by
    unfold LOk at h
    cases L with
    | nil => simp at h
    | cons r L =>
      rw [List.map_cons] at h
      injection h with h1 h2
      show (r ++ L.flatten).take c :: splitL cs ((r ++ L.flatten).drop c) = _
      subst h1
      rw [List.take_left, List.drop_left, split_flat h2]
theorem split_get {α : Type} : ∀ {cs : List Nat} {xs : List α} {i c : Nat}, cs[i]? = some c → (splitL cs xs)[i]? = some ((xs.drop (cs.take i).sum).take c)
  | [], _, i, c, h => by simp at h
  | d :: cs, xs, 0, c, h => by simp at h; subst h; simp [splitL]
  | d :: cs, xs, i + 1, c, h => by
    have := split_get (xs := xs.drop d) (show cs[i]? = some c by simpa using h)
    show (splitL cs (xs.drop d))[i]? = _
    rw [this, List.drop_drop, List.take_succ_cons, List.sum_cons]
theorem slice_nat {xs : List PyData} {i c : Nat} (h : i + c ≤ xs.length) : sliceD xs (some (i : Int)) (some ((i : Int) + (c : Int))) = (xs.drop i).take c := by
  unfold sliceD
  have e1 : HT.sIx xs.length 0 (some (i : Int)) = i := by
    show (if (i : Int) < 0 then ((i : Int) + (xs.length : Int)).toNat else min (i : Int).toNat xs.length) = i
    rw [if_neg (by omega)]; omega
  have e2 : HT.sIx xs.length xs.length (some ((i : Int) + (c : Int))) = i + c := by
    show (if (i : Int) + (c : Int) < 0 then ((i : Int) + (c : Int) + (xs.length : Int)).toNat else min ((i : Int) + (c : Int)).toNat xs.length) = i + c
    rw [if_neg (by omega)]; omega
  rw [e1, e2, Nat.add_sub_cancel_left]
theorem z_shaped {cs : List Nat} {qs : List Rat} (h : qs.length = cs.sum) (hl : cs.length ≤ 1000) : F__law_shaped [cD cs, .list (qs.map fD)] = .ok (lD (splitL cs qs)) := by
  unfold F__law_shaped i__law_shaped
  refine runD_go rfl ?_
  simp
  refine for_goD (fun i (t : Sl) => [.d (cD cs), .d (.list (qs.map fD)), .l ((splitL cs qs).map rowD |>.take i), .d (.int ((cs.take i).sum : Nat)), t]) .x (by simp) (fun i d t hd => ?_) (fun t => ?_)
  · obtain ⟨z, hz, rfl⟩ := map_get hd
    obtain ⟨c, hc, rfl⟩ := zs_get hz
    have hi := (List.getElem?_eq_some_iff.mp hc).1
    have e := take_more hc
    have hs := sum_take_le cs (i + 1)
    rw [e, List.sum_append] at hs
    simp at hs
    have hg : ((splitL cs qs).map rowD)[i]? = some (rowD ((qs.drop (cs.take i).sum).take c)) := by rw [List.getElem?_map, split_get hc]; rfl
    refine ⟨.d (.int c), ?_⟩
    rw [take_more hg, e, List.sum_append]
    generalize hT : List.take i ((splitL cs qs).map rowD) = T
    have hTl : T.length ≤ i := by rw [← hT, List.length_take]; omega
    simp [slice_nat (xs := qs.map fD) (i := (cs.take i).sum) (c := c) (by rw [List.length_map]; omega), show T.length ≤ 100000 by omega]
    simp [rowD]
  · rw [List.take_of_length_le (by
      have : (splitL cs qs).length = cs.length := (split_ok h).1.len
      rw [List.length_map, List.length_map, this, zs_len]; exact Nat.le_refl _)]
    simp
    rfl
end
end Ewl
-- DN8
set_option Elab.async false
set_option linter.all false
set_option maxRecDepth 100000
set_option maxHeartbeats 4000000
set_option exponentiation.threshold 10000
/-! What the laws do with loads: paired, read, a beat on. -/
namespace Ewl
open PySem L2
noncomputable section
theorem zip_item {xs ys : List PyData} {i : Nat} {d : PyData} (h : (zipD xs ys)[i]? = some d) : ∃ x y, xs[i]? = some x ∧ ys[i]? = some y ∧ d = .tuple [x, y] := by
  unfold zipD at h
  rw [List.getElem?_zipWith] at h
  cases e1 : xs[i]? with
  | none => rw [e1] at h; cases h
  | some x =>
    cases e2 : ys[i]? with
    | none => rw [e1, e2] at h; cases h
    | some y => rw [e1, e2] at h; exact ⟨x, y, rfl, rfl, (Option.some.inj h).symm⟩
/-! paired -/
def dotQ (qs rs : List Rat) : Rat := (List.zipWith (· * ·) qs rs).sum
theorem dot_next {qs rs : List Rat} {i : Nat} {q r : Rat} (h1 : qs[i]? = some q) (h2 : rs[i]? = some r) : ((List.zipWith (· * ·) qs rs).take (i + 1)).sum = ((List.zipWith (· * ·) qs rs).take i).sum + q * r := by
  rw [take_more (x := q * r) (by rw [List.getElem?_zipWith, h1, h2]), List.sum_append]
  simp [Rat.add_zero]
theorem fD_zero : fD 0 = .tuple [.int 0, .int 1] := rfl
theorem fD_one : fD 1 = .tuple [.int 1, .int 1] := rfl
theorem z_pairing {qs rs : List Rat} {k : Nat} (hk : k ≤ 2000) (hq : ∀ q ∈ qs, Sz k q) (hr : ∀ r ∈ rs, Sz k r) (hs : ∀ i, Sz 4000 ((List.zipWith (· * ·) qs rs).take i).sum) : F__law_pairing [.list (qs.map fD), .list (rs.map fD)] = .ok (fD (dotQ qs rs)) := by
  unfold F__law_pairing i__law_pairing
  refine runD_go rfl ?_
  simp [← fD_zero]
  refine for_goD (fun i (t : Sl × Sl) => [.d (.list (qs.map fD)), .d (.list (rs.map fD)), .d (fD ((List.zipWith (· * ·) qs rs).take i).sum), t.1, t.2]) (.x, .x) (by simp) (fun i d t hd => ?_) (fun t => ?_)
  · obtain ⟨x, y, hx, hy, rfl⟩ := zip_item hd
    obtain ⟨q, hq', rfl⟩ := map_get hx
    obtain ⟨r, hr', rfl⟩ := map_get hy
    have m1 := hq q (List.mem_of_getElem? hq')
    have m2 := hr r (List.mem_of_getElem? hr')
    have e1 := z_ltimes m1 m2 (by omega) (by omega)
    have e2 := z_lplus (hs i) (sz_times m1 m2) (by omega) (by omega)
    refine ⟨(.d (fD q), .d (fD r)), ?_⟩
    rw [dot_next hq' hr']
    simp [e1, e2]
  · rw [List.take_of_length_le (by rw [zip_len, List.length_map, List.length_map, List.length_zipWith]; exact Nat.le_refl _)]
    simp
    rfl
/-! read -/
@[simp] theorem dG_p {s : Sls} {gs : Gs} (p : Spot × Spot) : denG (.tup gs) s (pD p) = denGs gs s [sD p.1, sD p.2] := by unfold pD; simp
@[simp] theorem dG_s {s : Sls} {gs : Gs} (p : Spot) : denG (.tup gs) s (sD p) = denGs gs s [.int (p.1 : Nat), .int (p.2 : Nat)] := by unfold sD; simp
@[simp] theorem sq_pD {s : Sls} (p : Spot × Spot) : kSeq (s, pD p) = .ok (s, [sD p.1, sD p.2]) := rf rfl
theorem at_spot {cs : List Nat} {L : List (List Rat)} {p : Spot} (h : LOk cs L) (hs : SpOk cs p) : ∃ r, L[p.1]? = some r ∧ r[p.2]? = some (atL L p) := by
  obtain ⟨r, h1, _, h2⟩ := h.spot hs
  exact ⟨r, h1, h2⟩
theorem sz_at {cs : List Nat} {L : List (List Rat)} {p : Spot} {k : Nat} (h : LOk cs L) (hz : SzL k L) (hs : SpOk cs p) : Sz k (atL L p) := by
  obtain ⟨r, h1, h2⟩ := at_spot h hs
  exact hz r (List.mem_of_getElem? h1) _ (List.mem_of_getElem? h2)
theorem den2 {a : Nat} {q : Rat} (h : Sz a q) (ha : a ≤ 4000) : (0 : Int) < 2 * (q.den : Int) ∧ (2 * (q.den : Int)).natAbs < 2 ^ 8000 := by
  have h1 := q.den_pos
  have h2 := h.2
  refine ⟨by omega, pow_le_8000 (k := a + 1) ?_⟩
  rw [Nat.pow_succ]; omega
theorem z_read {M : Mach} {L : List (List Rat)} {k : Nat} (hM : MOk M) (hL : LOk M.cs L) (hz : SzL k L) (hk : k ≤ 1500) : F__law_read [mD M, lD L] = .ok (.tuple ((readL M L).map fD)) := by
  unfold F__law_read i__law_read
  refine runD_go rfl ?_
  simp
  have hl : (readL M L).length = M.ts.length := by simp [readL]
  refine for_goD (fun i (t : Sl × Sl × Sl × Sl × Sl) => [.d (mD M), .d (lD L), .l (((readL M L).take i).map fD), t.1, t.2.1, t.2.2.1, t.2.2.2.1, t.2.2.2.2]) (.x, .x, .x, .x, .x) (by simp) (fun i d t hd => ?_) (fun t => ?_)
  · obtain ⟨p, hp, rfl⟩ := map_get hd
    have hi := (List.getElem?_eq_some_iff.mp hp).1
    obtain ⟨s1, s2, _⟩ := hM.sp p (List.mem_of_getElem? hp)
    obtain ⟨r1, a1, a2⟩ := at_spot hL s1
    obtain ⟨r2, b1, b2⟩ := at_spot hL s2
    have z1 := sz_at hL hz s1
    have z2 := sz_at hL hz s2
    have zp := sz_plus z1 z2
    have e1 := z_lplus z1 z2 (by omega) (by omega)
    have d2 := den2 zp (by omega)
    have e2 := z_llow (t := (atL L p.1 + atL L p.2).num) d2.1 d2.2
    rw [divInt_half] at e2
    have hg : (readL M L)[i]? = some ((atL L p.1 + atL L p.2) / 2) := by unfold readL; rw [List.getElem?_map, hp]; rfl
    refine ⟨(.d (.int p.1.1), .d (.int p.1.2), .d (.int p.2.1), .d (.int p.2.2), .d (fD (atL L p.1 + atL L p.2))), ?_⟩
    rw [take_more hg]
    generalize hT : List.take i (readL M L) = T
    have hTl : T.length ≤ i := by rw [← hT, List.length_take]; omega
    have htl := hM.tl
    have mm := bo_mul (i := 2) (j := (atL L p.1 + atL L p.2).den) (sm_lt (by decide)) (den_sm zp (by omega))
    simp [ix_l' a1, ix_r a2, ix_l' b1, ix_r b2, e1, e2, mm, show T.length ≤ 100000 by omega]
  · rw [List.take_of_length_le (by rw [List.length_map]; omega)]
    simp
@[simp] theorem zip_ts {s : Sls} {ts : List (Spot × Spot)} {ys : List PyData} : kZip2 (tD ts) (s, .tuple ys) = .ok (s, zipD (ts.map pD) ys) := rf rfl
@[simp] theorem zip_tr {s : Sls} {ts : List (Spot × Spot)} {r : List Rat} : kZip2 (tD ts) (s, rowD r) = .ok (s, zipD (ts.map pD) (r.map fD)) := rf rfl
theorem z_readR {M : Mach} {L : List (List Rat)} {k : Nat} (hM : MOk M) (hL : LOk M.cs L) (hz : SzL k L) (hk : k ≤ 1500) : F__law_read [mD M, lD L] = .ok (rowD (readL M L)) := z_read hM hL hz hk
/-! a beat on -/
def llD (L : List (List Rat)) : List (List PyData) := L.map fun r => r.map fD
theorem ll_set {cs : List Nat} {s : Sls} {i : Nat} {R : List (List Rat)} {p : Spot} {q : Rat} (h : LOk cs R) (hs : SpOk cs p) : kSt4 i s (fD q) (p.1 : Nat) (p.2 : Nat) (llD R) = .ok (.nx (s.set i (.ll (llD (setAt R p q))))) := by
  obtain ⟨r, hr, hp, _⟩ := h.spot hs
  rw [kSt4_eq (xs := r.map fD) (by unfold llD; rw [List.getElem?_map, hr]; rfl) (by rw [List.length_map]; exact hp)]
  congr 5
  unfold setAt llD
  rw [List.map_set]
  have e : R.getD p.1 [] = r := by rw [List.getD_eq_getElem?_getD, hr]; rfl
  rw [e, List.map_set]
theorem list_row (r : List Rat) : blD .list [rowD r] = .ok (r.map fD) := rfl
def shI (L : List (List Rat)) (tr : List ((Spot × Spot) × Rat)) : List (List Rat) := tr.foldl (fun R pr => setAt (setAt R pr.1.1 pr.2) pr.1.2 pr.2) L
theorem sh_ok {cs : List Nat} : ∀ {tr : List ((Spot × Spot) × Rat)} {L : List (List Rat)}, LOk cs L → LOk cs (shI L tr)
  | [], _, h => h
  | pr :: tr, L, h => sh_ok (tr := tr) (setAt_len (setAt_len h))
theorem roll_row {r : List Rat} {j : Nat} (hj : j < r.length) : ofO (atI (r.map fD) (((j + 1) % r.length : Nat) : Int)) = .ok (fD ((rollR r).getD j 0)) := by
  obtain ⟨q, h1, h2⟩ := roll_get hj
  rw [at_nat (v := fD q) (by rw [List.getElem?_map, h1]; rfl), List.getD_eq_getElem?_getD, h2]; rfl
theorem roll_map (r : List Rat) : (List.range r.length).map (fun j => fD ((rollR r).getD j 0)) = (rollR r).map fD := by
  apply List.ext_getElem?
  intro i
  rw [List.getElem?_map, List.getElem?_map]
  by_cases h : i < r.length
  · have h' : i < (rollR r).length := by rw [roll_len]; exact h
    rw [List.getElem?_range h]
    simp [h']
  · rw [List.getElem?_eq_none (by simp; omega), List.getElem?_eq_none (by rw [roll_len]; omega)]; rfl
theorem z_beat {M : Mach} {L : List (List Rat)} {k : Nat} (hM : MOk M) (hL : LOk M.cs L) (hz : SzL k L) (hk : k ≤ 1500) : F__law_beat [mD M, lD L] = .ok (lD (beatL M L)) := by
  unfold F__law_beat i__law_beat
  refine runD_go rfl ?_
  have h16 := hM.len2
  have hLl := hL.len
  have e1 := z_read hM hL hz hk
  simp
  rw [kLL_eq (by simp; omega) (by decide)]
  simp
  rw [lcLF_map (fun r => r.map fD) fun r hr => by simp [list_row]]
  simp [e1]
  refine for_goD (fun i (t : Sl × Sl × Sl × Sl) => [.d (mD M), .d (lD L), .ll (llD (shI L ((M.ts.zip (readL M L)).take i))), t.1, t.2.1, t.2.2.1, t.2.2.2, .x]) (.x, .x, .x, .x) (by rfl) (fun i d t hd => ?_) (fun t => ?_)
  · obtain ⟨x, y, hx, hy, rfl⟩ := zip_item hd
    obtain ⟨p, hp, rfl⟩ := map_get hx
    obtain ⟨q, hq, rfl⟩ := map_get hy
    obtain ⟨s1, s2, _⟩ := hM.sp p (List.mem_of_getElem? hp)
    have hg : (M.ts.zip (readL M L))[i]? = some (p, q) := by rw [List.getElem?_zip_eq_some]; exact ⟨hp, hq⟩
    have hR := sh_ok (tr := (M.ts.zip (readL M L)).take i) hL
    rw [take_more hg]
    have en : shI L ((M.ts.zip (readL M L)).take i ++ [(p, q)]) = setAt (setAt (shI L ((M.ts.zip (readL M L)).take i)) p.1 q) p.2 q := by unfold shI; rw [List.foldl_append]; rfl
    rw [en]
    generalize shI L ((M.ts.zip (readL M L)).take i) = R at *
    have w1 := fun s => ll_set (s := s) (i := 2) (q := q) hR s1
    have w2 := fun s => ll_set (s := s) (i := 2) (q := q) (setAt_len (s := p.1) (q := q) hR) s2
    refine ⟨(.d (pD p), .d (fD q), .d (.int p.2.1), .d (.int p.2.2)), ?_⟩
    simp [fo_cons, fo_nil, w1, w2]
  · rw [List.take_of_length_le (by simp [readL])]
    have es : shI L (M.ts.zip (readL M L)) = shareL M.ts (readL M L) L := rfl
    have eb : beatL M L = rollL (shareL M.ts (readL M L) L) := rfl
    rw [es, eb]
    have hS : LOk M.cs (shareL M.ts (readL M L) L) := share_ok hL
    have hSl := hS.len
    generalize shareL M.ts (readL M L) L = R at *
    simp
    rw [kLc_eq (by simp [llD]; omega) (by decide)]
    simp
    have em : List.map PyData.list (llD R) = R.map fun r => .list (r.map fD) := by unfold llD; rw [List.map_map]; rfl
    rw [em]
    simp only [b_as]
    refine lc_goD (fun t' : Sl => [.d (mD M), .d (lD L), .d (.list (R.map fun r => .list (r.map fD))), t.1, t.2.1, t.2.2.1, t', .x]) (fun r => rowD (rollR r)) t.2.2.2 rfl (fun r hr t' => ⟨.x, ?_⟩) (fun t' => ?_)
    · have hc : r.length ≤ 30 := by
        have h1 := hM.sum
        have h2 : r.length ∈ M.cs := by rw [← hS]; exact List.mem_map.mpr ⟨r, hr, rfl⟩
        have := le_sum h2
        omega
      have hrc : rngOk (r.length : Int) := ⟨by omega, by omega⟩
      simp [hrc]
      rw [kLc_eq (by simp; omega) (by decide)]
      simp
      rw [lcF_rng (fun j => fD ((rollR r).getD j 0)) fun j hj => ?_]
      · rw [roll_map]
        simp
        rfl
      · have mm := bo_mod (i := (j : Int) + 1) (j := r.length) (by omega)
        have e := roll_row hj
        rw [Int.natCast_emod, Int.natCast_add] at e
        simp [mm]
        simp at e
        rw [e]
        simp
    · simp
      unfold lD rollL
      rw [List.map_map]; rfl
end
end Ewl
-- DN9
set_option Elab.async false
set_option linter.all false
set_option maxRecDepth 100000
set_option maxHeartbeats 4000000
set_option exponentiation.threshold 10000
/-! By beats, what a touch reads of one at each place alone. -/
namespace Ewl
open PySem L2
noncomputable section
def unQ (n k : Nat) : List Rat := (List.range n).map fun i => if i = k then 1 else 0
def unitL (cs : List Nat) (k : Nat) : List (List Rat) := splitL cs (unQ cs.sum k)
theorem unQ_len (n k : Nat) : (unQ n k).length = n := by simp [unQ]
theorem unit_ok (cs : List Nat) (k : Nat) : LOk cs (unitL cs k) := (split_ok (unQ_len _ _)).1
theorem unit_flat (cs : List Nat) (k : Nat) : (unitL cs k).flatten = unQ cs.sum k := (split_ok (unQ_len _ _)).2
theorem unit_bd (cs : List Nat) (k : Nat) : BdL 1 1 (unitL cs k) := fun r hr q hq => by
  have : q ∈ (unitL cs k).flatten := List.mem_flatten.mpr ⟨r, hr, hq⟩
  rw [unit_flat] at this
  obtain ⟨i, _, rfl⟩ := List.mem_map.mp this
  split
  · exact ⟨by decide, 1, by rw [Rat.mkRat_eq_div]; grind, by simp⟩
  · exact .zero (by decide)
theorem one_lt_pow {k m : Nat} (h : m < k) : 2 ^ m < 2 ^ k := Nat.pow_lt_pow_right (by decide) h
theorem unit_it {M : Mach} (hM : MOk M) (k : Nat) {m j : Nat} (hj : j ≤ m) : SzL (m + 1) (itB M j (unitL M.cs k)) :=
  sz_it hM (unit_ok _ _) (unit_bd _ _) m (by simpa using one_lt_pow (Nat.lt_succ_self m)) (by simpa using one_lt_pow (Nat.lt_succ_self m)) j hj
/-- the row of a touch at a beat -/
def rwQ (M : Mach) (j t : Nat) : List Rat := (List.range M.cs.sum).map fun k => (readL M (itB M j (unitL M.cs k))).getD t 0
def rowsD (M : Mach) (w : List Nat) (j : Nat) : PyData := .list (w.map fun t => .list ((rwQ M j t).map fD))
theorem unD {n k : Nat} : (List.range n).map (fun i : Nat => PyData.tuple [.int (if i = k then 1 else 0), .int 1]) = (unQ n k).map fD := by
  unfold unQ
  rw [List.map_map]
  apply List.map_congr_left
  intro i _
  show _ = fD (if i = k then 1 else 0)
  by_cases h : i = k
  · rw [if_pos h, if_pos h, fD_one]
  · rw [if_neg h, if_neg h, fD_zero]
def ldsD (M : Mach) (j : Nat) : List PyData := (List.range M.cs.sum).map fun k => lD (itB M j (unitL M.cs k))
def rdsD (M : Mach) (j : Nat) : List PyData := (List.range M.cs.sum).map fun k => rowD (readL M (itB M j (unitL M.cs k)))
theorem lds_len (M : Mach) (j : Nat) : (ldsD M j).length = M.cs.sum := by simp [ldsD]
theorem rds_len (M : Mach) (j : Nat) : (rdsD M j).length = M.cs.sum := by simp [rdsD]
theorem z_rows {M : Mach} {w : List Nat} {B : Nat} (hM : MOk M) (hw : ∀ t ∈ w, t < M.ts.length) (hwl : w.length ≤ 100) (hwn : w ≠ []) (hB : B ≤ 1000) : F__law_rows [mD M, cD w, .int (B : Nat)] = .ok (.list ((List.range B).map (rowsD M w))) := by
  unfold F__law_rows i__law_rows
  refine runD_go rfl ?_
  have hn := hM.sum
  have hrn : rngOk (M.cs.sum : Int) := ⟨by omega, by omega⟩
  have hrB : rngOk (B : Int) := ⟨by omega, by omega⟩
  simp [hrn]
  rw [kLc_eq (by simp; omega) (by decide)]
  simp
  rw [lcF_rng (fun k => lD (unitL M.cs k)) fun k hk => ?_]
  · simp [hrB]
    refine for_goD (fun i (t : Sl × Sl) => [.d (mD M), .d (cD w), .d (.int (B : Nat)), .d (.int (M.cs.sum : Nat)), .l (ldsD M i), .l ((List.range i).map (rowsD M w)), t.1, t.2, .x, .x, .x, .x, .x]) (.x, .x) rfl (fun i d t hd => ?_) (fun t => ?_)
    · obtain ⟨hi, rfl⟩ := rng_item hd
      refine ⟨(.d (.int i), .d (.list (rdsD M i))), ?_⟩
      simp
      rw [kLc_eq (by rw [lds_len]; omega) (by decide)]
      simp
      unfold ldsD
      rw [lcF_map (fun k => rowD (readL M (itB M i (unitL M.cs k)))) fun k hk => ?_]
      · have hT : (List.map (rowsD M w) (List.range i)).length ≤ 1000 := by simp; omega
        have hR : rdsD M i = (List.range M.cs.sum).map fun k => rowD (readL M (itB M i (unitL M.cs k))) := rfl
        have hLd : ldsD M i = (List.range M.cs.sum).map fun k => lD (itB M i (unitL M.cs k)) := rfl
        rw [← hR, ← hLd]
        simp
        rw [kLc_eq (by simp [zs_len]; omega) (by decide)]
        simp
        unfold zs
        rw [List.map_map]
        rw [lcF_frz (fun c : Bool => [.d (mD M), .d (cD w), .d (.int (B : Nat)), .d (.int (M.cs.sum : Nat)), .d (.list (ldsD M i)), .l ((List.range i).map (rowsD M w)), .d (.int i), if c = true then .d (.list (rdsD M i)) else .l (rdsD M i), .x, .x, .x, .x, .x]) (fun t => .list ((rwQ M i t).map fD)) (by rfl) hwn fun wt hwt c => ?_]
        rotate_left
        · have ht := hw wt hwt
          have key : lcF [12] (stE [.dd F__law_shaped, .dd F__law_read, .dd F__law_beat] [] (.nm 12) (.ixv 12 (.var 11))) (rdsD M i) [.d (mD M), .d (cD w), .d (.int (B : Nat)), .d (.int (M.cs.sum : Nat)), .d (.list (ldsD M i)), .l ((List.range i).map (rowsD M w)), .d (.int i), .d (.list (rdsD M i)), .x, .x, .x, .d (.int (wt : Nat)), .x] =
              .ok ([.d (mD M), .d (cD w), .d (.int (B : Nat)), .d (.int (M.cs.sum : Nat)), .d (.list (ldsD M i)), .l ((List.range i).map (rowsD M w)), .d (.int i), .d (.list (rdsD M i)), .x, .x, .x, .d (.int (wt : Nat)), .x], (rwQ M i wt).map fD) := by
            unfold rwQ
            rw [List.map_map]
            unfold rdsD
            refine lcF_map (fun k => fD ((readL M (itB M i (unitL M.cs k))).getD wt 0)) fun k hk => ?_
            have e : (readL M (itB M i (unitL M.cs k)))[wt]? = some ((readL M (itB M i (unitL M.cs k))).getD wt 0) := by
              have : wt < (readL M (itB M i (unitL M.cs k))).length := by simp [readL, ht]
              simp [this]
            simp [ix_r e]
          cases c
          · simp
            rw [kLc_eq (by rw [rds_len]; omega) (by decide)]
            simp [key]
          · simp
            rw [kLc_eq (by rw [rds_len]; omega) (by decide)]
            simp [key]
        · simp [show i ≤ 100000 by omega]
          rw [kLc_eq (by rw [lds_len]; omega) (by decide)]
          simp
          unfold ldsD
          rw [lcF_map (fun k => lD (itB M (i + 1) (unitL M.cs k))) fun k hk => ?_]
          · simp [List.range_succ, rowsD]
          · have e := z_beat hM (it_ok (unit_ok M.cs k) i) (unit_it hM k (Nat.le_refl i)) (by omega)
            simp [e]
            rfl
      · have e := z_readR hM (it_ok (unit_ok M.cs k) i) (unit_it hM k (Nat.le_refl i)) (by omega)
        simp [e]
    · rw [rl_eq]
      simp
  · have e := z_shaped (cs := M.cs) (qs := unQ M.cs.sum k) (unQ_len _ _) (by have := hM.len2; omega)
    simp [hrn]
    rw [kLc_eq (by simp; omega) (by decide)]
    simp
    rw [lcF_rng (fun i : Nat => PyData.tuple [.int (if i = k then 1 else 0), .int 1]) fun i hi => ?_]
    · rw [unD]
      simp [e]
      rfl
    · simp [Int.natCast_inj]
end
end Ewl
-- DN10
set_option Elab.async false
set_option linter.all false
set_option maxRecDepth 100000
set_option maxHeartbeats 4000000
set_option exponentiation.threshold 10000
/-! The program: what a machine is. -/
namespace Ewl
open PySem L2
noncomputable section
@[simp] theorem ty_i {i : Int} : tyD (.int i) = "int" := rf rfl
@[simp] theorem ty_t {xs : List PyData} : tyD (.tuple xs) = "tuple" := rf rfl
@[simp] theorem ty_l {xs : List PyData} : tyD (.list xs) = "list" := rf rfl
@[simp] theorem ty_b {b : Bool} : tyD (.bool b) = "bool" := rf rfl
@[simp] theorem ty_c (cs : List Nat) : tyD (cD cs) = "tuple" := rf rfl
@[simp] theorem ty_s (s : Spot) : tyD (sD s) = "tuple" := rf rfl
@[simp] theorem ty_p (s : Spot × Spot) : tyD (pD s) = "tuple" := rf rfl
@[simp] theorem ty_tD (ts : List (Spot × Spot)) : tyD (tD ts) = "tuple" := rf rfl
@[simp] theorem ty_m (M : Mach) : tyD (mD M) = "tuple" := rf rfl
@[simp] theorem ty_f (q : Rat) : tyD (fD q) = "tuple" := rf rfl
@[simp] theorem ty_r (r : List Rat) : tyD (rowD r) = "tuple" := rf rfl
@[simp] theorem ty_L (L : List (List Rat)) : tyD (lD L) = "tuple" := rf rfl
@[simp] theorem ln_s (s : Spot) : lenD (sD s) = .ok (.int 2) := rf rfl
@[simp] theorem ln_p (s : Spot × Spot) : lenD (pD s) = .ok (.int 2) := rf rfl
@[simp] theorem ln_m (M : Mach) : lenD (mD M) = .ok (.int 2) := rf rfl
@[simp] theorem ln_f (q : Rat) : lenD (fD q) = .ok (.int 2) := rf rfl
@[simp] theorem ix_s0 (s : Spot) : ixD (sD s) (.int 0) = .ok (.int (s.1 : Nat)) := by unfold sD; simp
@[simp] theorem ix_s1 (s : Spot) : ixD (sD s) (.int 1) = .ok (.int (s.2 : Nat)) := by unfold sD; simp
@[simp] theorem ix_p0 (p : Spot × Spot) : ixD (pD p) (.int 0) = .ok (sD p.1) := by unfold pD; simp
@[simp] theorem ix_p1 (p : Spot × Spot) : ixD (pD p) (.int 1) = .ok (sD p.2) := by unfold pD; simp
@[simp] theorem dG_m {s : Sls} {gs : Gs} (M : Mach) : denG (.tup gs) s (mD M) = denGs gs s [cD M.cs, tD M.ts] := by unfold mD; simp
@[simp] theorem dG_f {s : Sls} {gs : Gs} (q : Rat) : denG (.tup gs) s (fD q) = denGs gs s [.int q.num, .int (q.den : Int)] := by unfold fD; simp
@[simp] theorem z_whole {i : Int} : F_is_whole [.int i] = .ok (.bool true) := by
  unfold F_is_whole i_is_whole
  refine runD_go rfl ?_
  simp
/-- a tuple of so many -/
theorem z_tup {d : PyData} {n : Nat} {m : Int} (h : tyD d = "tuple") (h2 : lenD d = .ok (.int n)) (h3 : m = n) : F_is_tuple_of [d, .int m] = .ok (.bool true) := by
  unfold F_is_tuple_of i_is_tuple_of
  refine runD_go rfl ?_
  simp [h, h2, h3]
theorem lk_w : List.lookup ("MOST_WHEELS" : Str) [(("MOST_CELLS" : Str), (30 : Int)), ("MOST_WHEELS", 16)] = some 16 := by decide +kernel
theorem lk_c : List.lookup ("MOST_CELLS" : Str) [(("MOST_CELLS" : Str), (30 : Int)), ("MOST_WHEELS", 16)] = some 30 := by decide +kernel
theorem z_counts_ok {M : Mach} (hM : MOk M) : F_are_counts [cD M.cs] = .ok (.bool true) := by
  unfold F_are_counts i_are_counts
  refine runD_go rfl ?_
  have h1 := hM.len1
  have h2 := hM.len2
  have h3 := hM.sum
  have c1 : (1 : Int) ≤ M.cs.length := by omega
  have c2 : (M.cs.length : Int) ≤ 16 := by omega
  have c3 : (M.cs.sum : Int) ≤ 30 := by omega
  simp [lk_w, c1, c2]
  refine for_goD (fun i (t : Sl) => [.d (cD M.cs), t]) .x rfl (fun i d t hd => ?_) (fun t => ?_)
  · obtain ⟨z, hz, rfl⟩ := map_get hd
    obtain ⟨c, hc, rfl⟩ := zs_get hz
    have hp := hM.pos c (List.mem_of_getElem? hc)
    have hp' : ¬ (c : Int) < 1 := by omega
    refine ⟨.d (.int c), ?_⟩
    simp [hp']
  · simp [lk_c, c3]
theorem z_spot_ok {cs : List Nat} {s : Spot} (h : SpOk cs s) : F_is_spot_of [cD cs, sD s] = .ok (.bool true) := by
  unfold F_is_spot_of i_is_spot_of
  refine runD_go rfl ?_
  obtain ⟨c, hc, hp⟩ := h
  have hi := (List.getElem?_eq_some_iff.mp hc).1
  have e1 := z_tup (d := sD s) (m := 2) (by simp) (ln_s s) rfl
  simp [e1]
  unfold sD
  simp [ix_c hc, hi, hp]
theorem z_pair_ok {cs : List Nat} {p : Spot × Spot} (h1 : SpOk cs p.1) (h2 : SpOk cs p.2) : F_is_pair_of [cD cs, pD p] = .ok (.bool true) := by
  unfold F_is_pair_of i_is_pair_of
  refine runD_go rfl ?_
  have e1 := z_tup (d := pD p) (m := 2) (by simp) (ln_p p) rfl
  simp [e1, z_spot_ok h1, z_spot_ok h2]
end
end Ewl
-- DN11
set_option Elab.async false
set_option linter.all false
set_option maxRecDepth 100000
set_option maxHeartbeats 4000000
set_option exponentiation.threshold 10000
/-! The program: what is looked at and let by. -/
namespace Ewl
open PySem L2
noncomputable section
theorem ord_s (a b : Spot) : ordOk (sD a) (sD b) = true := by
  unfold ordOk
  rw [alike_s]
  simp [sD, PyData.depth, PyData.depthAll, PyData.hasDict, PyData.hasDictAll]
theorem ord_p (a b : Spot × Spot) : ordOk (pD a) (pD b) = true := by
  unfold ordOk
  rw [alike_p]
  simp [pD, sD, PyData.depth, PyData.depthAll, PyData.hasDict, PyData.hasDictAll]
@[simp] theorem co_geS (a b : Spot) : cmpD .ge (sD a) (sD b) = .ok (!decide (sLt a b)) := by
  have : cmpD .ge (sD a) (sD b) = if ordOk (sD a) (sD b) = true then .ok (!PySem.W.dataLt (sD a) (sD b)) else .un := rfl
  rw [this, if_pos (ord_s a b), dataLt_s]
@[simp] theorem co_leP (a b : Spot × Spot) : cmpD .le (pD a) (pD b) = .ok (!decide (pLt b a)) := by
  have : cmpD .le (pD a) (pD b) = if ordOk (pD a) (pD b) = true then .ok (!PySem.W.dataLt (pD b) (pD a)) else .un := rfl
  rw [this, if_pos (ord_p a b), dataLt_p]
@[simp] theorem tk_s (s : Spot) : tkeyOf (sD s) = some (kS s) := rf rfl
@[simp] theorem neg_f (b : Bool) : negIf false b = b := rf rfl
@[simp] theorem neg_t (b : Bool) : negIf true b = !b := rf rfl
theorem z_touches_ok {M : Mach} (hM : MOk M) : F_need_touches [cD M.cs, tD M.ts] = .ok .none := by
  unfold F_need_touches i_need_touches
  refine runD_go rfl ?_
  simp
  refine for_goD (fun i (t : Sl × Sl) => [.d (cD M.cs), .d (tD M.ts), .dt (takenOf (M.ts.take i)), t.1, t.2]) (.x, .x) rfl (fun i d t hd => ?_) (fun t => ?_)
  · obtain ⟨x, hx, rfl⟩ := enum_item hd
    obtain ⟨p, hp, rfl⟩ := map_get hx
    obtain ⟨s1, s2, s3⟩ := hM.sp p (List.mem_of_getElem? hp)
    have hi := (List.getElem?_eq_some_iff.mp hp).1
    have e1 := z_pair_ok s1 s2
    have s4 : sLt p.1 p.2 := s3
    have hnd : (tSpots (M.ts.take i ++ [p])).Nodup := by
      rw [← take_more hp]
      have h0 := hM.nd
      rw [← List.take_append_drop (i + 1) M.ts] at h0
      unfold tSpots at h0 ⊢
      rw [List.flatMap_append, List.nodup_append] at h0
      exact h0.1
    have hnd' : (tSpots (M.ts.take i) ++ [p.1, p.2]).Nodup := by
      have : tSpots (M.ts.take i ++ [p]) = tSpots (M.ts.take i) ++ [p.1, p.2] := by simp [tSpots]
      rwa [this] at hnd
    rw [List.nodup_append] at hnd'
    have n1 : p.1 ∉ tSpots (M.ts.take i) := fun h => hnd'.2.2 _ h _ (by simp) rfl
    have n2 : p.2 ∉ tSpots (M.ts.take i) := fun h => hnd'.2.2 _ h _ (by simp) rfl
    have v1 := taken_none _ _ n1
    have v2 := taken_none _ _ n2
    have hl := taken_len (M.ts.take i)
    have hl2 : (M.ts.take i).length ≤ 8 := by have := hM.tl; rw [List.length_take]; omega
    have hl3 := putD_len (kvs := takenOf (M.ts.take i)) (k := kS p.1) (v := .bool true)
    refine ⟨(.d (.int i), .d (pD p)), ?_⟩
    rw [take_more hp, taken_app]
    generalize takenOf (M.ts.take i) = T at *
    by_cases h0 : 0 < i
    · obtain ⟨j, rfl⟩ : ∃ j, i = j + 1 := ⟨i - 1, by omega⟩
      obtain ⟨q, hq⟩ : ∃ q, M.ts[j]? = some q := ⟨M.ts[j], by simp⟩
      have e2 := ix_ts hq
      have hlt := hM.ri j q p hq hp
      have ej : ((j : Int) + 1 - 1) = (j : Int) := by omega
      have hpos : (0 : Int) < (j : Int) + 1 := by omega
      simp [e1, s4, e2, ej, hpos, hlt, v1, v2, show T.length ≤ 1000 by omega, show (putD T (kS p.1) (.bool true)).length ≤ 1000 by omega]
    · have : i = 0 := by omega
      subst this
      simp [e1, s4, v1, v2, show T.length ≤ 1000 by omega, show (putD T (kS p.1) (.bool true)).length ≤ 1000 by omega]
  · simp
theorem lk_t : List.lookup ("MOST_TOUCHES" : Str) [(("MOST_TOUCHES" : Str), (8 : Int))] = some 8 := by decide +kernel
theorem z_mach_ok {M : Mach} (hM : MOk M) : F_need_machine [mD M] = .ok .none := by
  unfold F_need_machine i_need_machine
  refine runD_go rfl ?_
  have e1 := z_tup (d := mD M) (m := 2) (by simp) (ln_m M) rfl
  have h8 : ¬ (8 : Int) < M.ts.length := by have := hM.tl; omega
  simp [e1, z_counts_ok hM, h8, z_touches_ok hM]
theorem z_below_ok {w : List Nat} {n : Nat} (h1 : ∀ t ∈ w, t < n) (h2 : w.Pairwise (· < ·)) : F_are_numbers_below [.int (n : Nat), cD w] = .ok (.bool true) := by
  unfold F_are_numbers_below i_are_numbers_below
  refine runD_go rfl ?_
  simp
  refine for_goD (fun i (t : Sl × Sl) => [.d (.int (n : Nat)), .d (cD w), t.1, t.2]) (.x, .x) rfl (fun i d t hd => ?_) (fun t => ?_)
  · obtain ⟨x, hx, rfl⟩ := enum_item hd
    obtain ⟨z, hz, rfl⟩ := map_get hx
    obtain ⟨c, hc, rfl⟩ := zs_get hz
    have hi := (List.getElem?_eq_some_iff.mp hc).1
    have hp := h1 c (List.mem_of_getElem? hc)
    refine ⟨(.d (.int i), .d (.int c)), ?_⟩
    by_cases h0 : 0 < i
    · obtain ⟨j, rfl⟩ : ∃ j, i = j + 1 := ⟨i - 1, by omega⟩
      obtain ⟨q, hq⟩ : ∃ q, w[j]? = some q := ⟨w[j], by simp⟩
      have e2 := ix_c hq
      have hlt : q < c := by
        have hj := List.getElem?_eq_some_iff.mp hq
        have hi' := List.getElem?_eq_some_iff.mp hc
        have := List.pairwise_iff_getElem.mp h2 j (j + 1) hj.1 hi'.1 (by omega)
        rw [hj.2, hi'.2] at this
        exact this
      have ej : ((j : Int) + 1 - 1) = (j : Int) := by omega
      have hpos : (0 : Int) < (j : Int) + 1 := by omega
      simp [hp, e2, ej, hpos, show ¬ c ≤ q by omega]
    · have : i = 0 := by omega
      subst this
      simp [hp]
  · simp
theorem z_win_ok {M : Mach} {w : List Nat} (hM : MOk M) (h1 : ∀ t ∈ w, t < M.ts.length) (h2 : w.Pairwise (· < ·)) (h3 : w ≠ []) : F_need_window [mD M, cD w] = .ok .none := by
  unfold F_need_window i_need_window
  refine runD_go rfl ?_
  have h4 : ¬ (w.length : Int) = 0 := by
    have := List.length_pos_iff.mpr h3
    omega
  have h5 : ¬ w.length = 0 := by omega
  simp [z_mach_ok hM, z_below_ok h1 h2, h4, h3]
theorem z_frac_ok (q : Rat) : F_is_fraction [fD q] = .ok (.bool true) := by
  unfold F_is_fraction i_is_fraction
  refine runD_go rfl ?_
  have e1 := z_tup (d := fD q) (m := 2) (by simp) (ln_f q) rfl
  have hd : 0 < q.den := q.den_pos
  have hg : Nat.gcd q.num.natAbs q.den = 1 := q.reduced
  simp [e1, hd, hg]
theorem z_load_on_ok {cs : List Nat} {L : List (List Rat)} (h : LOk cs L) : F_need_load_on [cD cs, lD L] = .ok .none := by
  unfold F_need_load_on i_need_load_on
  refine runD_go rfl ?_
  have e1 := z_tup (d := lD L) (m := cs.length) (by simp) (ln_lD L) (by rw [h.len])
  simp [e1]
  refine for_goD (fun i (t : Sl × Sl) => [.d (cD cs), .d (lD L), t.1, t.2, .x, .x, .x]) (.x, .x) rfl (fun i d t hd => ?_) (fun t => ?_)
  · obtain ⟨x, hx, rfl⟩ := enum_item hd
    obtain ⟨z, hz, rfl⟩ := map_get hx
    obtain ⟨c, hc, rfl⟩ := zs_get hz
    obtain ⟨r, hr, hl⟩ := h.get hc
    have e2 := z_tup (d := rowD r) (m := c) (by simp) (ln_rowD r) (by rw [hl])
    refine ⟨(.d (.int i), .d (.int c)), ?_⟩
    simp [ix_l' hr, e2]
  · simp
    refine for_goD (fun i (u : Sl × Sl × Sl × Sl) => [.d (cD cs), .d (lD L), u.1, t.2, u.2.1, u.2.2.1, u.2.2.2]) (t.1, .x, .x, .x) rfl (fun i d u hd => ?_) (fun u => ?_)
    · obtain ⟨x, hx, rfl⟩ := enum_item hd
      obtain ⟨r, hr, rfl⟩ := map_get hx
      simp [-Prod.exists]
      refine for_goP (fun x => ∃ t' : Sl × Sl × Sl × Sl, x = .ok (.nx [.d (cD cs), .d (lD L), t'.1, t.2, t'.2.1, t'.2.2.1, t'.2.2.2])) (fun j (v : Sl × Sl) => [.d (cD cs), .d (lD L), .d (.int i), t.2, .d (rowD r), v.1, v.2]) (u.2.2.1, u.2.2.2) rfl (fun j d v hd => ?_) (fun v => ?_)
      · obtain ⟨x, hx, rfl⟩ := enum_item hd
        obtain ⟨q, hq, rfl⟩ := map_get hx
        refine ⟨(.d (.int j), .d (fD q)), ?_⟩
        simp [z_frac_ok]
      · exact ⟨(.d (.int i), .d (rowD r), v.1, v.2), by simp⟩
    · simp
theorem z_load_ok {M : Mach} {L : List (List Rat)} (hM : MOk M) (h : LOk M.cs L) : F_need_load [mD M, lD L] = .ok .none := by
  unfold F_need_load i_need_load
  refine runD_go rfl ?_
  simp [z_mach_ok hM, z_load_on_ok h]
theorem lk_30 : List.lookup ("MOST_CELLS" : Str) [(("MOST_CELLS" : Str), (30 : Int))] = some 30 := by decide +kernel
theorem lk_300 : List.lookup ("MOST_BEATS" : Str) [(("MOST_BEATS" : Str), (300 : Int))] = some 300 := by decide +kernel
theorem z_lbeats_ok {b : Nat} (h1 : 1 ≤ b) (h : b ≤ 30) : F_need_look_beats [.int (b : Nat)] = .ok .none := by
  unfold F_need_look_beats i_need_look_beats
  refine runD_go rfl ?_
  have h2 : (1 : Int) ≤ b := by omega
  have h3 : (b : Int) ≤ 30 := by omega
  simp [lk_30, h2, h3]
theorem z_beats_ok {b : Nat} (h : b ≤ 300) : F_need_beats [.int (b : Nat)] = .ok .none := by
  unfold F_need_beats i_need_beats
  refine runD_go rfl ?_
  have h3 : (b : Int) ≤ 300 := by omega
  simp [lk_300, h3]
theorem z_tch_in_ok {ts : List (Spot × Spot)} {t : Nat} (h : t < ts.length) : F_need_touch_in [tD ts, .int (t : Nat)] = .ok .none := by
  unfold F_need_touch_in i_need_touch_in
  refine runD_go rfl ?_
  simp [h]
theorem z_tch_ok {M : Mach} {t : Nat} (hM : MOk M) (h : t < M.ts.length) : F_need_touch [mD M, .int (t : Nat)] = .ok .none := by
  unfold F_need_touch i_need_touch
  refine runD_go rfl ?_
  simp [z_mach_ok hM, z_tch_in_ok h]
end
end Ewl
-- DN12
set_option Elab.async false
set_option linter.all false
set_option maxRecDepth 100000
set_option maxHeartbeats 4000000
set_option exponentiation.threshold 10000
/-! The program: fractions, beats, readings, looks. -/
namespace Ewl
open PySem L2
noncomputable section
theorem P_lowest {t b : Int} (h : 0 < b) (hz : b.natAbs < 2 ^ 8000) : F_lowest [.int t, .int b] = .ok (fD (Rat.divInt t b)) := by
  unfold F_lowest i_lowest
  refine runD_go rfl ?_
  have hl : (Nat.gcd t.natAbs b.natAbs).log2 < 9000 := by
    have := log_lt (k := 8000) (by omega) (Nat.lt_of_le_of_lt (gcd_le (t := t) h).2 hz)
    omega
  have g := gcd_le (t := t) h
  have e1 := bo_fdiv (i := t) g.1 (by rw [Int.natAbs_natCast]; exact hl)
  have e2 := bo_fdiv (i := b) g.1 (by rw [Int.natAbs_natCast]; exact hl)
  have hn : ¬ b < 0 := by omega
  simp [hn, e1, e2]
  exact low_fD h
theorem P_half {k : Nat} {q : Rat} (h : Sz k q) (hk : k ≤ 4000) : F_half [fD q] = .ok (fD (q / 2)) := by
  unfold F_half i_half
  refine runD_go rfl ?_
  have d2 := den2 h hk
  have e := P_lowest (t := q.num) d2.1 d2.2
  rw [divInt_half] at e
  have mm := bo_mul (i := 2) (j := q.den) (sm_lt (by decide)) (den_sm h hk)
  simp [mm, e]
theorem P_plus {a b : Nat} {p q : Rat} (h1 : Sz a p) (h2 : Sz b q) (ha : a ≤ 4000) (hb : b ≤ 4000) : F_plus [fD p, fD q] = .ok (fD (p + q)) := by
  unfold F_plus i_plus
  refine runD_go rfl ?_
  have e := P_lowest (t := p.num * q.den + q.num * p.den) (mul_pos' p q) (den_mul h1 h2 (by omega))
  rw [divInt_plus] at e
  simp [bo_mul, num_sm h1, num_sm h2, den_sm h1, den_sm h2, e]
theorem P_read {M : Mach} {L : List (List Rat)} {k : Nat} (hM : MOk M) (hL : LOk M.cs L) (hz : SzL k L) (hk : k ≤ 1500) : F__read [mD M, lD L] = .ok (rowD (readL M L)) := by
  unfold F__read i__read
  refine runD_go rfl ?_
  have htl := hM.tl
  simp
  rw [kLc_eq (by rw [List.length_map]; omega) (by decide)]
  simp
  rw [lcF_map (fun p : Spot × Spot => fD ((atL L p.1 + atL L p.2) / 2)) fun p hp => ?_]
  · simp [rowD, readL]
  · obtain ⟨s1, s2, _⟩ := hM.sp p hp
    obtain ⟨r1, a1, a2⟩ := at_spot hL s1
    obtain ⟨r2, b1, b2⟩ := at_spot hL s2
    have z1 := sz_at hL hz s1
    have z2 := sz_at hL hz s2
    have e1 := P_plus z1 z2 (by omega) (by omega)
    have e2 := P_half (sz_plus z1 z2) (by omega)
    simp [ix_l' a1, ix_r a2, ix_l' b1, ix_r b2, e1, e2]
theorem P_load_of {L : List (List Rat)} (h : L.length ≤ 1000) : F__load_of [.list (L.map fun r => .list (r.map fD))] = .ok (lD L) := by
  unfold F__load_of i__load_of
  refine runD_go rfl ?_
  simp
  rw [kLc_eq (by rw [List.length_map]; omega) (by decide)]
  simp
  rw [lcF_map (fun r => rowD r) fun r hr => by simp; rfl]
  simp
  rfl
theorem slice_1n (xs : List PyData) : sliceD xs (some 1) none = xs.drop 1 := by
  cases xs with
  | nil => rfl
  | cons x xs =>
    unfold sliceD
    have e1 : HT.sIx (x :: xs).length 0 (some 1) = 1 := by
      show (if (1 : Int) < 0 then ((1 : Int) + ((x :: xs).length : Int)).toNat else min (1 : Int).toNat (x :: xs).length) = 1
      rw [if_neg (by decide)]; simp
    have e2 : HT.sIx (x :: xs).length (x :: xs).length none = (x :: xs).length := rfl
    rw [e1, e2, List.take_of_length_le (by simp)]
theorem slice_n1 (xs : List PyData) : sliceD xs none (some 1) = xs.take 1 := by
  cases xs with
  | nil => rfl
  | cons x xs =>
    unfold sliceD
    have e1 : HT.sIx (x :: xs).length (x :: xs).length (some 1) = 1 := by
      show (if (1 : Int) < 0 then ((1 : Int) + ((x :: xs).length : Int)).toNat else min (1 : Int).toNat (x :: xs).length) = 1
      rw [if_neg (by decide)]; simp
    have e2 : HT.sIx (x :: xs).length 0 none = 0 := rfl
    rw [e1, e2]; rfl
theorem P_next {M : Mach} {L : List (List Rat)} {k : Nat} (hM : MOk M) (hL : LOk M.cs L) (hz : SzL k L) (hk : k ≤ 1500) : F_next_load [mD M, lD L] = .ok (lD (beatL M L)) := by
  unfold F_next_load i_next_load
  refine runD_go rfl ?_
  have h16 := hM.len2
  have hLl := hL.len
  have e1 := P_read hM hL hz hk
  simp
  rw [kLL_eq (by simp; omega) (by decide)]
  simp
  rw [lcLF_map (fun r => r.map fD) fun r hr => by simp [list_row]]
  simp [e1]
  refine for_goD (fun i (t : Sl × Sl × Sl × Sl) => [.d (mD M), .d (lD L), .ll (llD (shI L ((M.ts.zip (readL M L)).take i))), t.1, t.2.1, t.2.2.1, t.2.2.2, .x]) (.x, .x, .x, .x) (by rfl) (fun i d t hd => ?_) (fun t => ?_)
  · obtain ⟨x, y, hx, hy, rfl⟩ := zip_item hd
    obtain ⟨p, hp, rfl⟩ := map_get hx
    obtain ⟨q, hq, rfl⟩ := map_get hy
    obtain ⟨s1, s2, _⟩ := hM.sp p (List.mem_of_getElem? hp)
    have hg : (M.ts.zip (readL M L))[i]? = some (p, q) := by rw [List.getElem?_zip_eq_some]; exact ⟨hp, hq⟩
    have hR := sh_ok (tr := (M.ts.zip (readL M L)).take i) hL
    rw [take_more hg]
    have en : shI L ((M.ts.zip (readL M L)).take i ++ [(p, q)]) = setAt (setAt (shI L ((M.ts.zip (readL M L)).take i)) p.1 q) p.2 q := by unfold shI; rw [List.foldl_append]; rfl
    rw [en]
    generalize shI L ((M.ts.zip (readL M L)).take i) = R at *
    have w1 := fun s => ll_set (s := s) (i := 2) (q := q) hR s1
    have w2 := fun s => ll_set (s := s) (i := 2) (q := q) (setAt_len (s := p.1) (q := q) hR) s2
    refine ⟨(.d (pD p), .d (fD q), .d (.int p.2.1), .d (.int p.2.2)), ?_⟩
    simp [fo_cons, fo_nil, w1, w2]
  · rw [List.take_of_length_le (by simp [readL])]
    have es : shI L (M.ts.zip (readL M L)) = shareL M.ts (readL M L) L := rfl
    have eb : beatL M L = rollL (shareL M.ts (readL M L) L) := rfl
    rw [es, eb]
    have hS : LOk M.cs (shareL M.ts (readL M L) L) := share_ok hL
    have hSl := hS.len
    generalize shareL M.ts (readL M L) L = R at *
    simp
    rw [kLc_eq (by simp [llD]; omega) (by decide)]
    simp
    have em : List.map PyData.list (llD R) = R.map fun r => .list (r.map fD) := by unfold llD; rw [List.map_map]; rfl
    rw [em, lcF_map (fun r => .list ((rollR r).map fD)) fun r hr => ?_]
    · have e := P_load_of (L := rollL R) (by simp [rollL]; omega)
      unfold rollL at e
      rw [List.map_map] at e
      have ef : ((fun r : List Rat => PyData.list (r.map fD)) ∘ rollR) = fun r => .list ((rollR r).map fD) := rfl
      rw [ef] at e
      simp [e]
      rfl
    · have hc : r.length ≤ 30 := by
        have h1 := hM.sum
        have h2 : r.length ∈ M.cs := by rw [← hS]; exact List.mem_map.mpr ⟨r, hr, rfl⟩
        have := le_sum h2
        omega
      simp [slice_1n, slice_n1]
      have hlen : r.length - 1 + min 1 r.length ≤ 100000 := by omega
      simp [hlen, rollR]
theorem P_readings {M : Mach} {L : List (List Rat)} {B k : Nat} (hM : MOk M) (hL : LOk M.cs L) (hz : ∀ i, i < B → SzL k (itB M i L)) (hk : k ≤ 1500) (hB : B ≤ 300) : F_readings [mD M, lD L, .int (B : Nat)] = .ok (.list ((List.range B).map fun i => rowD (readL M (itB M i L)))) := by
  unfold F_readings i_readings
  refine runD_go rfl ?_
  have hr : rngOk (B : Int) := ⟨by omega, by omega⟩
  simp [z_load_ok hM hL, z_beats_ok hB, hr]
  refine for_goD (fun i (t : Sl) => [.d (mD M), .d (lD L), .d (.int (B : Nat)), .l ((List.range i).map fun i => rowD (readL M (itB M i L))), .d (lD (itB M i L)), t]) .x rfl (fun i d t hd => ?_) (fun t => ?_)
  · obtain ⟨hi, rfl⟩ := rng_item hd
    have e1 := P_read hM (it_ok hL i) (hz i hi) hk
    have e2 := P_next hM (it_ok hL i) (hz i hi) hk
    refine ⟨.d (.int i), ?_⟩
    simp [e1, e2, show i ≤ 100000 by omega, List.range_succ]
    rfl
  · simp
theorem P_looks {M : Mach} {L : List (List Rat)} {w : List Nat} {B k : Nat} (hM : MOk M) (hL : LOk M.cs L) (h1 : ∀ t ∈ w, t < M.ts.length) (h2 : w.Pairwise (· < ·)) (h3 : w ≠ []) (hwl : w.length ≤ 100) (hz : ∀ i, i < B → SzL k (itB M i L)) (hk : k ≤ 1500) (hB : B ≤ 30) (hB1 : 1 ≤ B) :
    F_looks [mD M, cD w, lD L, .int (B : Nat)] = .ok (.tuple ((List.range B).map fun i => .tuple (w.map fun t => fD ((readL M (itB M i L)).getD t 0)))) := by
  unfold F_looks i_looks
  refine runD_go rfl ?_
  have e := P_readings hM hL hz hk (by omega)
  simp [z_win_ok hM h1 h2 h3, z_load_ok hM hL, z_lbeats_ok hB1 hB, e]
  rw [kLc_eq (by simp; omega) (by decide)]
  simp
  rw [lcF_map (fun i => .tuple (w.map fun t => fD ((readL M (itB M i L)).getD t 0))) fun i hi => ?_]
  · simp
  · simp
    rw [kLc_eq (by simp [zs_len]; omega) (by decide)]
    simp
    unfold zs
    rw [List.map_map, lcF_map (fun t => fD ((readL M (itB M i L)).getD t 0)) fun t ht => ?_]
    · simp
    · have htl := h1 t ht
      have e : (readL M (itB M i L))[t]? = some ((readL M (itB M i L)).getD t 0) := by
        have : t < (readL M (itB M i L)).length := by simp [readL, htl]
        simp [this]
      simp [ix_r e]
end
end Ewl
-- DN13
set_option Elab.async false
set_option linter.all false
set_option maxRecDepth 100000
set_option maxHeartbeats 4000000
set_option exponentiation.threshold 10000
/-! The program: a machine of touches in any order, its mirror, rows. -/
namespace Ewl
open PySem L2
noncomputable section
theorem srt_two {x y : PyData} (f : PySem.W.dataLe false (fun d => d) x y = b) : srtD [x, y] = if b = true then [x, y] else [y, x] := by
  subst f
  unfold srtD
  rw [List.mergeSort.eq_def]
  simp [List.MergeSort.Internal.splitInTwo, List.merge]
theorem srt_s (a b : Spot) : srtD [sD a, sD b] = [sD (minS a b), sD (maxS a b)] := by
  have e : PySem.W.dataLe false (fun d => d) (sD a) (sD b) = !decide (sLt b a) := by
    rw [PySem.W.dataLe_eq]
    show (!PySem.W.dataLt (sD b) (sD a)) = _
    rw [dataLt_s]
  rw [srt_two e]
  unfold minS maxS
  by_cases h : sLt b a
  · have h' := sLt_asymm h
    simp [h, h']
  · by_cases h' : sLt a b
    · simp [h, h']
    · have : a = b := by
        by_cases e : a = b
        · exact e
        · rcases sLt_tri e with z | z
          · exact absurd z h'
          · exact absurd z h
      subst this
      simp [h]
theorem alike_ss (a b : Spot) : PySem.W.AllAlike [sD a, sD b] := (alikeAll_s a b).1
theorem sortable_ss (a b : Spot) : PySem.W.Sortable [sD a, sD b] := .inl fun d hd => by
  simp at hd
  rcases hd with rfl | rfl <;> exact ⟨_, _, rfl⟩
theorem depth_ss (a b : Spot) : ∀ d ∈ [sD a, sD b], d.depth ≤ 8 := fun d hd => by
  simp at hd
  rcases hd with rfl | rfl <;> exact Nat.le_trans (sh_sD _).2 (by decide)
theorem sorted_sL (a b : Spot) : blD .sorted [.list [sD a, sD b]] = .ok [sD (minS a b), sD (maxS a b)] := by
  rw [bl_sortedL (alike_ss a b) (sortable_ss a b) (depth_ss a b), srt_s]
theorem sorted_sT (a b : Spot) : blD .sorted [.tuple [sD a, sD b]] = .ok [sD (minS a b), sD (maxS a b)] := by
  rw [bl_sortedT (alike_ss a b) (sortable_ss a b) (depth_ss a b), srt_s]
def ordP (p : Spot × Spot) : Spot × Spot := (minS p.1 p.2, maxS p.1 p.2)
theorem sorted_p (p : Spot × Spot) : blD .sorted [pD p] = .ok [sD (ordP p).1, sD (ordP p).2] := sorted_sT p.1 p.2
theorem ordP_spots (p : Spot × Spot) : [(ordP p).1, (ordP p).2].Perm [p.1, p.2] := by
  obtain ⟨a, b⟩ := p
  unfold ordP minS maxS
  simp only
  by_cases h : sLt b a
  · have h' := sLt_asymm h
    simp only [h, h', if_true, if_false]; exact List.Perm.swap _ _ _
  · by_cases h' : sLt a b
    · simp only [h, h', if_true, if_false]; exact List.Perm.refl _
    · have : a = b := by
        by_cases e : a = b
        · exact e
        · rcases sLt_tri e with z | z
          · exact absurd z h'
          · exact absurd z h
      subst this
      simp
theorem ordP_lt {p : Spot × Spot} (h : p.1 ≠ p.2) : sLt (ordP p).1 (ordP p).2 := by
  obtain ⟨a, b⟩ := p
  unfold ordP minS maxS
  simp only at h ⊢
  rcases sLt_tri h with q | q
  · rw [if_neg (sLt_asymm q), if_pos q]; exact q
  · rw [if_pos q, if_neg (sLt_asymm q)]; exact q
theorem ordP_all (ps : List (Spot × Spot)) : (tSpots (ps.map ordP)).Perm (tSpots ps) := by
  induction ps with
  | nil => exact List.Perm.refl _
  | cons p ps ih => exact (List.Perm.append (ordP_spots p) ih)
/-- touches put in order -/
def ordT (cs : List Nat) (ps : List (Spot × Spot)) : Mach := ⟨cs, sortP (ps.map ordP)⟩
theorem ord_ok {cs : List Nat} {ps : List (Spot × Spot)} (h1 : 1 ≤ cs.length) (h2 : cs.length ≤ 16) (h3 : ∀ c ∈ cs, 1 ≤ c) (h4 : cs.sum ≤ 30) (h5 : ps.length ≤ 8) (h6 : ∀ p ∈ ps, SpOk cs p.1 ∧ SpOk cs p.2) (h7 : (tSpots ps).Nodup) : MOk (ordT cs ps) := by
  have nd : (tSpots (ps.map ordP)).Nodup := (ordP_all ps).nodup_iff.mpr h7
  obtain ⟨pm, pw⟩ := sortP_ok nd
  refine ⟨h1, h2, h3, h4, ?_, fun p hp => ?_, fun i p q hi hj => ?_, (tSpots_perm pm).nodup_iff.mpr nd⟩
  · show (sortP (ps.map ordP)).length ≤ 8
    rw [pm.length_eq, List.length_map]; exact h5
  · obtain ⟨q, hq, rfl⟩ := List.mem_map.mp (pm.subset hp)
    obtain ⟨s1, s2⟩ := h6 q hq
    have hm := ordP_spots q
    have a1 : SpOk cs (ordP q).1 := by
      have := hm.subset (List.mem_cons_self (a := (ordP q).1) (l := [(ordP q).2]))
      simp at this
      rcases this with z | z <;> rw [z] <;> assumption
    have a2 : SpOk cs (ordP q).2 := by
      have : (ordP q).2 ∈ [q.1, q.2] := hm.subset (by simp)
      simp at this
      rcases this with z | z <;> rw [z] <;> assumption
    refine ⟨a1, a2, ordP_lt ?_⟩
    obtain ⟨l1, l2, e⟩ := List.append_of_mem hq
    rw [e] at h7
    unfold tSpots at h7
    rw [List.flatMap_append, List.flatMap_cons] at h7
    have := (List.nodup_append.mp h7).2.1
    have := (List.nodup_append.mp this).1
    simp at this
    exact this
  · have hj' := List.getElem?_eq_some_iff.mp hj
    have hi' := List.getElem?_eq_some_iff.mp hi
    obtain ⟨hj1, hj2⟩ := hj'
    obtain ⟨hi1, hi2⟩ := hi'
    have := List.pairwise_iff_getElem.mp pw i (i + 1) hi1 hj1 (by omega)
    have e1 : (sortP (ps.map ordP))[i] = p := hi2
    have e2 : (sortP (ps.map ordP))[i + 1] = q := hj2
    rw [← e1, ← e2]
    exact this
theorem P_machine_of {cs : List Nat} {ps : List (Spot × Spot)} (h1 : 1 ≤ cs.length) (h2 : cs.length ≤ 16) (h3 : ∀ c ∈ cs, 1 ≤ c) (h4 : cs.sum ≤ 30) (h5 : ps.length ≤ 8) (h6 : ∀ p ∈ ps, SpOk cs p.1 ∧ SpOk cs p.2) (h7 : (tSpots ps).Nodup) :
    F_machine_of [cD cs, .list (ps.map pD)] = .ok (mD (ordT cs ps)) := by
  unfold F_machine_of i_machine_of
  refine runD_go rfl ?_
  have hM := ord_ok h1 h2 h3 h4 h5 h6 h7
  have hc := z_counts_ok hM
  have h8 : ¬ (8 : Int) < ps.length := by omega
  have h8' : ¬ 8 < ps.length := by omega
  have hc' : F_are_counts [cD cs] = .ok (.bool true) := hc
  simp [hc', lk_t, h8, h8']
  refine for_goD (fun i (t : Sl) => [.d (cD cs), .d (.list (ps.map pD)), t, .x]) .x rfl (fun i d t hd => ?_) (fun t => ?_)
  · obtain ⟨p, hp, rfl⟩ := map_get hd
    obtain ⟨s1, s2⟩ := h6 p (List.mem_of_getElem? hp)
    refine ⟨.d (pD p), ?_⟩
    simp [z_pair_ok s1 s2]
  · simp
    rw [kLc_eq (by rw [List.length_map]; omega) (by decide)]
    simp
    rw [lcF_map (fun p => pD (ordP p)) fun p hp => by simp [sorted_p]; rfl]
    have es : blD .sorted [.list (ps.map fun p => pD (ordP p))] = .ok ((sortP (ps.map ordP)).map pD) := by
      have := bl_sortedL (alike_ps (ps.map ordP)) (sortable_ps _) (depth_ps _)
      rw [srt_map, List.map_map] at this
      exact this
    have ed : PyData.tuple [cD cs, .tuple ((sortP (ps.map ordP)).map pD)] = mD (ordT cs ps) := rfl
    have em := z_mach_ok hM
    simp [es, ed, em]
/-! the mirror -/
def mirS (cs : List Nat) (s : Spot) : Spot := (s.1, ((1 - (s.2 : Int)) % (cs.getD s.1 0 : Nat)).toNat)
def mirP (cs : List Nat) (p : Spot × Spot) : Spot × Spot := (mirS cs p.1, mirS cs p.2)
def mirM (M : Mach) : Mach := ordT M.cs (M.ts.map fun p => ordP (mirP M.cs p))
theorem mirS_ok {cs : List Nat} {s : Spot} (h : SpOk cs s) : SpOk cs (mirS cs s) ∧ (((mirS cs s).2 : Nat) : Int) = (1 - (s.2 : Int)) % (cs.getD s.1 0 : Nat) := by
  obtain ⟨c, hc, hp⟩ := h
  have e : cs.getD s.1 0 = c := by rw [List.getD_eq_getElem?_getD, hc]; rfl
  have h1 := Int.emod_nonneg (1 - (s.2 : Int)) (b := (c : Int)) (by omega)
  have h2 := Int.emod_lt_of_pos (1 - (s.2 : Int)) (b := (c : Int)) (by omega)
  unfold mirS
  rw [e]
  refine ⟨⟨c, hc, ?_⟩, ?_⟩
  · simp only; omega
  · simp only; omega
theorem P_mirrored {M : Mach} {p : Spot × Spot} (h1 : SpOk M.cs p.1) (h2 : SpOk M.cs p.2) : F__mirrored [mD M, pD p] = .ok (pD (ordP (mirP M.cs p))) := by
  unfold F__mirrored i__mirrored
  refine runD_go rfl ?_
  simp
  rw [kLc_eq (by simp) (by decide)]
  simp
  have e0 : [sD p.1, sD p.2] = [p.1, p.2].map sD := by simp
  rw [e0, lcF_map (fun s => sD (mirS M.cs s)) fun s hs => ?_]
  · simp
    have := sorted_sL (mirS M.cs p.1) (mirS M.cs p.2)
    simp [this]
    rfl
  · have hs' : SpOk M.cs s := by
      simp at hs
      rcases hs with rfl | rfl <;> assumption
    obtain ⟨c, hc, hp⟩ := hs'
    have e : M.cs.getD s.1 0 = c := by rw [List.getD_eq_getElem?_getD, hc]; rfl
    have mm := bo_mod (i := 1 - (s.2 : Int)) (j := c) (by omega)
    have q := (mirS_ok ⟨c, hc, hp⟩).2
    rw [e] at q
    simp [ix_c hc, mm]
    unfold sD
    rw [q]
    rfl
end
end Ewl
-- DN14
set_option Elab.async false
set_option linter.all false
set_option maxRecDepth 100000
set_option maxHeartbeats 4000000
set_option exponentiation.threshold 10000
/-! The program: the mirror, rows. -/
namespace Ewl
open PySem L2
noncomputable section
theorem mirS_inj {cs : List Nat} {s t : Spot} (hs : SpOk cs s) (ht : SpOk cs t) (e : mirS cs s = mirS cs t) : s = t := by
  have e1 : s.1 = t.1 := show (mirS cs s).1 = (mirS cs t).1 from by rw [e]
  obtain ⟨c, hc, hp⟩ := hs
  obtain ⟨c', hc', hp'⟩ := ht
  have ec : c' = c := by rw [← e1, hc] at hc'; exact (Option.some.inj hc').symm
  subst ec
  have e2 : ((mirS cs s).2 : Int) = ((mirS cs t).2 : Int) := by rw [e]
  rw [(mirS_ok ⟨c', hc, hp⟩).2, (mirS_ok ⟨c', hc', hp'⟩).2] at e2
  have g1 : cs.getD s.1 0 = c' := by rw [List.getD_eq_getElem?_getD, hc]; rfl
  have g2 : cs.getD t.1 0 = c' := by rw [List.getD_eq_getElem?_getD, hc']; rfl
  rw [g1, g2] at e2
  have h3 : ((1 - (s.2 : Int)) - (1 - (t.2 : Int))) % (c' : Int) = 0 := by rw [Int.sub_emod, e2, Int.sub_self, Int.zero_emod]
  have h4 : (c' : Int) ∣ (t.2 : Int) - (s.2 : Int) := by
    have := Int.dvd_of_emod_eq_zero h3
    have e4 : (1 - (s.2 : Int)) - (1 - (t.2 : Int)) = (t.2 : Int) - (s.2 : Int) := by omega
    rwa [e4] at this
  obtain ⟨m, hm⟩ := h4
  have hm0 : m = 0 := by
    by_cases h : m = 0
    · exact h
    · exfalso
      have : 1 ≤ m ∨ m ≤ -1 := by omega
      rcases this with z | z
      · have : (c' : Int) * 1 ≤ (c' : Int) * m := Int.mul_le_mul_of_nonneg_left z (by omega)
        omega
      · have : (c' : Int) * m ≤ (c' : Int) * (-1) := Int.mul_le_mul_of_nonneg_left z (by omega)
        omega
  rw [hm0, Int.mul_zero] at hm
  exact Prod.ext e1 (by omega)
theorem mir_spots (cs : List Nat) (ts : List (Spot × Spot)) : (tSpots (ts.map fun p => ordP (mirP cs p))).Perm ((tSpots ts).map (mirS cs)) := by
  have h1 := ordP_all (ts.map (mirP cs))
  rw [List.map_map] at h1
  refine h1.trans ?_
  have : tSpots (ts.map (mirP cs)) = (tSpots ts).map (mirS cs) := by
    induction ts with
    | nil => rfl
    | cons p ps ih =>
      show [mirS cs p.1, mirS cs p.2] ++ tSpots (ps.map (mirP cs)) = _
      rw [ih (ordP_all _ |> fun h => by rwa [List.map_map] at h)]
      rfl
  rw [this]
theorem spots_ok {M : Mach} (hM : MOk M) {s : Spot} (h : s ∈ tSpots M.ts) : SpOk M.cs s := by
  obtain ⟨p, hp, hs⟩ := List.mem_flatMap.mp h
  obtain ⟨s1, s2, _⟩ := hM.sp p hp
  simp at hs
  rcases hs with rfl | rfl <;> assumption
theorem mir_nd {M : Mach} (hM : MOk M) : (tSpots (M.ts.map fun p => ordP (mirP M.cs p))).Nodup := by
  rw [(mir_spots _ _).nodup_iff]
  have : ∀ l : List Spot, (∀ s ∈ l, SpOk M.cs s) → l.Nodup → (l.map (mirS M.cs)).Nodup := by
    intro l
    induction l with
    | nil => intro _ _; simp
    | cons a l ih =>
      intro h nd
      rw [List.nodup_cons] at nd
      rw [List.map_cons, List.nodup_cons]
      refine ⟨fun hm => ?_, ih (fun s hs => h s (List.mem_cons_of_mem _ hs)) nd.2⟩
      obtain ⟨b, hb, e⟩ := List.mem_map.mp hm
      have := mirS_inj (h b (List.mem_cons_of_mem _ hb)) (h a List.mem_cons_self) e
      subst this
      exact nd.1 hb
  exact this _ (fun s hs => spots_ok hM hs) hM.nd
theorem mir_sp {M : Mach} (hM : MOk M) : ∀ p ∈ M.ts.map (fun p => ordP (mirP M.cs p)), SpOk M.cs p.1 ∧ SpOk M.cs p.2 := fun p hp => by
  obtain ⟨q, hq, rfl⟩ := List.mem_map.mp hp
  obtain ⟨s1, s2, _⟩ := hM.sp q hq
  have hm := ordP_spots (mirP M.cs q)
  have m1 := (mirS_ok s1).1
  have m2 := (mirS_ok s2).1
  refine ⟨?_, ?_⟩
  · have : (ordP (mirP M.cs q)).1 ∈ [(mirP M.cs q).1, (mirP M.cs q).2] := hm.subset (by simp)
    simp [mirP] at this
    rcases this with z | z <;> rw [show (ordP (mirP M.cs q)).1 = _ from z] <;> assumption
  · have : (ordP (mirP M.cs q)).2 ∈ [(mirP M.cs q).1, (mirP M.cs q).2] := hm.subset (by simp)
    simp [mirP] at this
    rcases this with z | z <;> rw [show (ordP (mirP M.cs q)).2 = _ from z] <;> assumption
theorem mir_ok {M : Mach} (hM : MOk M) : MOk (mirM M) := ord_ok hM.len1 hM.len2 hM.pos hM.sum (by rw [List.length_map]; exact hM.tl) (mir_sp hM) (mir_nd hM)
theorem P_mirror {M : Mach} (hM : MOk M) : F_mirror [mD M] = .ok (mD (mirM M)) := by
  unfold F_mirror i_mirror
  refine runD_go rfl ?_
  have htl := hM.tl
  simp [z_mach_ok hM]
  rw [kLc_eq (by rw [List.length_map]; omega) (by decide)]
  simp
  rw [lcF_map (fun p => pD (ordP (mirP M.cs p))) fun p hp => ?_]
  · have e := P_machine_of hM.len1 hM.len2 hM.pos hM.sum (by rw [List.length_map]; exact hM.tl) (mir_sp hM) (mir_nd hM)
    rw [List.map_map] at e
    have e2 : (pD ∘ fun p => ordP (mirP M.cs p)) = fun p => pD (ordP (mirP M.cs p)) := rfl
    rw [e2] at e
    simp [e]
    rfl
  · obtain ⟨s1, s2, _⟩ := hM.sp p hp
    simp [P_mirrored s1 s2]
/-! turned about -/
def tbR (r : List Rat) : List Rat := r.take 1 ++ (r.drop 1).reverse
def tbL (L : List (List Rat)) : List (List Rat) := L.map tbR
theorem tb_len (r : List Rat) : (tbR r).length = r.length := by unfold tbR; cases r <;> simp <;> omega
theorem tbL_ok {cs : List Nat} {L : List (List Rat)} (h : LOk cs L) : LOk cs (tbL L) := by
  unfold LOk tbL at *
  rw [← h, List.map_map]
  congr 1
  funext r
  exact tb_len r
theorem fm_gets {α : Type} : ∀ ys : List α, (List.range ys.length).filterMap (fun k => ys[k]?) = ys
  | [] => rfl
  | y :: ys => by
    rw [List.length_cons, List.range_succ_eq_map, List.filterMap_cons]
    show y :: List.filterMap _ (List.map Nat.succ (List.range ys.length)) = _
    rw [List.filterMap_map]
    congr 1
    exact fm_gets ys
theorem fm_cong' {α β : Type} {f g : α → Option β} : ∀ {l : List α}, (∀ a ∈ l, f a = g a) → l.filterMap f = l.filterMap g
  | [], _ => rfl
  | a :: l, h => by
    rw [List.filterMap_cons, List.filterMap_cons, h a List.mem_cons_self, fm_cong' fun b hb => h b (List.mem_cons_of_mem _ hb)]
theorem back_rev (xs : List PyData) : backD xs none (some 0) = (xs.drop 1).reverse := by
  unfold backD
  cases xs with
  | nil => rfl
  | cons x xs =>
    have e1 : Builtin.Slice.sliceAdjust none (some 0) (-1) (((x :: xs).length : Nat) : Int) = ((xs.length : Int), 0) := by
      unfold Builtin.Slice.sliceAdjust
      simp
      omega
    rw [e1]
    have e2 : Builtin.Slice.slicePlaces (xs.length : Int) 0 (-1) = xs.length := by
      unfold Builtin.Slice.slicePlaces
      simp
      split <;> omega
    rw [e2]
    show List.filterMap (fun k : Nat => (x :: xs)[((xs.length : Int) + (k : Int) * (-1)).toNat]?) (List.range xs.length) = xs.reverse
    rw [fm_cong' (g := fun k => xs.reverse[k]?) fun k hk => ?_]
    · have := fm_gets xs.reverse
      rwa [List.length_reverse] at this
    · have hk := List.mem_range.mp hk
      have e3 : ((xs.length : Int) + (k : Int) * (-1)).toNat = (xs.length - 1 - k) + 1 := by omega
      rw [e3, List.getElem?_cons_succ, List.getElem?_reverse hk]
theorem P_turned {cs : List Nat} {L : List (List Rat)} (h : LOk cs L) (hl : cs.length ≤ 100) (hs : ∀ c ∈ cs, c ≤ 900) : F_turned_about [lD L] = .ok (lD (tbL L)) := by
  unfold F_turned_about i_turned_about
  refine runD_go rfl ?_
  have hLl := h.len
  simp
  rw [kLc_eq (by rw [List.length_map]; omega) (by decide)]
  simp
  rw [lcF_map (fun r => rowD (tbR r)) fun r hr => ?_]
  · simp
    unfold lD tbL
    rw [List.map_map]; rfl
  · have hc := hs r.length (by rw [← h]; exact List.mem_map.mpr ⟨r, hr, rfl⟩)
    unfold rowD
    have e := bo_addT (xs := (r.map fD).take 1) (ys := ((r.map fD).drop 1).reverse) (by simp; omega)
    simp [slice_n1, back_rev, show r.length - 1 ≤ 1000 by omega]
    simp at e
    simp [e, tbR]
/-! a half at both spots -/
def halfL (cs : List Nat) (p : Spot × Spot) : List (List Rat) := setAt (setAt (zeroL cs) p.1 (1 / 2)) p.2 (1 / 2)
theorem fD_half : fD (1 / 2) = .tuple [.int 1, .int 2] := by
  have : (1 / 2 : Rat) = ⟨1, 2, by decide, by decide⟩ := by decide +kernel
  rw [this]; rfl
theorem P_halves {M : Mach} {t : Nat} {p : Spot × Spot} (hM : MOk M) (h : M.ts[t]? = some p) : F_halves_on [mD M, .int (t : Nat)] = .ok (lD (halfL M.cs p)) := by
  unfold F_halves_on i_halves_on
  refine runD_go rfl ?_
  have h16 := hM.len2
  obtain ⟨s1, s2, _⟩ := hM.sp p (List.mem_of_getElem? h)
  have e1 := ix_ts h
  simp
  rw [kLL_eq (by simp [zs_len]; omega) (by decide)]
  simp
  unfold zs
  rw [List.map_map, lcLF_map (fun c => (List.replicate c (0 : Rat)).map fD) fun c hc => ?_]
  · have ez : (M.cs.map fun c => (List.replicate c (0 : Rat)).map fD) = llD (zeroL M.cs) := by unfold llD zeroL; rw [List.map_map]; rfl
    rw [ez]
    have w1 := fun s => ll_set (s := s) (i := 2) (q := 1 / 2) (zero_ok (cs := M.cs)) s1
    have w2 := fun s => ll_set (s := s) (i := 2) (q := 1 / 2) (setAt_len (s := p.1) (q := 1 / 2) (zero_ok (cs := M.cs))) s2
    rw [fD_half] at w1 w2
    simp [e1, fo_cons, fo_nil, w1, w2]
    have em : List.map PyData.list (llD (halfL M.cs p)) = (halfL M.cs p).map fun r => .list (r.map fD) := by unfold llD; rw [List.map_map]; rfl
    have hl : LOk M.cs (halfL M.cs p) := setAt_len (setAt_len zero_ok)
    have e := P_load_of (L := halfL M.cs p) (by rw [hl.len]; omega)
    rw [← em] at e
    have eh : setAt (setAt (zeroL M.cs) p.1 (1 / 2)) p.2 (1 / 2) = halfL M.cs p := rfl
    rw [eh]
    simp [e]
  · have hc30 : c ≤ 30 := Nat.le_trans (le_sum hc) hM.sum
    have b1 : (c : Int) < 9223372036854775808 := by omega
    have b2 : -9223372036854775808 ≤ (c : Int) := by omega
    simp [b1, b2, show c ≤ 100000 by omega, fD_zero]
theorem half_ok {cs : List Nat} {p : Spot × Spot} : LOk cs (halfL cs p) := setAt_len (setAt_len zero_ok)
theorem bd_half {cs : List Nat} {p : Spot × Spot} (h1 : SpOk cs p.1) (h2 : SpOk cs p.2) : BdL 2 1 (halfL cs p) := by
  have hb : Bd 2 1 (1 / 2) := ⟨by decide, 1, by rw [Rat.mkRat_eq_div]; rfl, by decide⟩
  refine (bd_at half_ok).mpr fun s hs => ?_
  unfold halfL
  rw [at_set (setAt_len zero_ok) h2]
  split
  · exact hb
  · rw [at_set zero_ok h1]
    split
    · exact hb
    · rw [at_zero hs]; exact .zero (by decide)
theorem bd_tb {d n : Nat} {L : List (List Rat)} (h : BdL d n L) : BdL d n (tbL L) := fun r hr q hq => by
  obtain ⟨r', hr', rfl⟩ := List.mem_map.mp hr
  refine h r' hr' q ?_
  unfold tbR at hq
  rcases List.mem_append.mp hq with z | z
  · exact List.mem_of_mem_take z
  · exact List.mem_of_mem_drop (List.mem_reverse.mp z)
theorem P_row {M : Mach} {t b : Nat} {p : Spot × Spot} (hM : MOk M) (h : M.ts[t]? = some p) (hb : b ≤ 300) : F_row_of [mD M, .int (t : Nat), .int (b : Nat)] = .ok (lD (tbL (itB (mirM M) b (tbL (halfL M.cs p))))) := by
  unfold F_row_of i_row_of
  refine runD_go rfl ?_
  have ht := (List.getElem?_eq_some_iff.mp h).1
  obtain ⟨s1, s2, _⟩ := hM.sp p (List.mem_of_getElem? h)
  have hr : rngOk (b : Int) := ⟨by omega, by omega⟩
  have h30 : ∀ c ∈ M.cs, c ≤ 900 := fun c hc => by have := le_sum hc; have := hM.sum; omega
  have h16 := hM.len2
  have hM' := mir_ok hM
  have h0 : LOk (mirM M).cs (tbL (halfL M.cs p)) := tbL_ok half_ok
  have hbd : BdL 2 1 (tbL (halfL M.cs p)) := bd_tb (bd_half s1 s2)
  have hsz : ∀ i, i ≤ b → SzL 302 (itB (mirM M) i (tbL (halfL M.cs p))) := fun i hi => sz_it hM' h0 hbd 300 (by decide) (by decide) i (by omega)
  have e1 := P_turned (half_ok (cs := M.cs) (p := p)) (by omega) h30
  simp [z_tch_ok hM ht, z_beats_ok hb, P_mirror hM, P_halves hM h, e1, hr]
  refine for_goD (fun i (u : Sl) => [.d (mD M), .d (.int (t : Nat)), .d (.int (b : Nat)), .d (mD (mirM M)), .d (lD (itB (mirM M) i (tbL (halfL M.cs p)))), u]) .x rfl (fun i d u hd => ?_) (fun u => ?_)
  · obtain ⟨hi, rfl⟩ := rng_item hd
    have e2 := P_next hM' (it_ok h0 i) (hsz i (by omega)) (by omega)
    refine ⟨.d (.int i), ?_⟩
    simp [e2]
    rfl
  · rw [rl_eq]
    have e3 := P_turned (it_ok h0 b) (by exact Nat.le_trans h16 (by decide)) h30
    simp [e3]
end
end Ewl
-- N2
set_option Elab.async false
set_option linter.all false
set_option maxRecDepth 100000
set_option maxHeartbeats 4000000
set_option exponentiation.threshold 10000
/-! Rows: a beat's adjoint is the mirror's beat, turned about. -/
namespace Ewl
open PySem L2
theorem sum_upd {α : Type} [DecidableEq α] {g g' : α → Rat} {s : α} (hg : ∀ t, t ≠ s → g' t = g t) : ∀ {l : List α}, l.Nodup → s ∈ l → (l.map g').sum = (l.map g).sum - g s + g' s
  | [], _, h => by simp at h
  | a :: l, nd, h => by
    rw [List.nodup_cons] at nd
    rw [List.map_cons, List.sum_cons, List.map_cons, List.sum_cons]
    by_cases e : a = s
    · subst e
      have : (l.map g') = l.map g := List.map_congr_left fun t ht => hg t fun z => nd.1 (z ▸ ht)
      rw [this]; grind
    · have hs : s ∈ l := by
        rcases List.mem_cons.mp h with z | z
        · exact absurd z.symm e
        · exact z
      rw [sum_upd hg nd.2 hs, hg a e]; grind
def sW (cs : List Nat) (X L : List (List Rat)) : Rat := ((spotsL cs).flatten.map fun s => atL X s * atL L s).sum
theorem sW_comm (cs : List Nat) (X L : List (List Rat)) : sW cs X L = sW cs L X := by
  unfold sW
  congr 1
  exact List.map_congr_left fun s _ => Rat.mul_comm _ _
theorem sW_set {cs : List Nat} {X L : List (List Rat)} {s : Spot} {q : Rat} (h : LOk cs L) (hs : SpOk cs s) : sW cs X (setAt L s q) = sW cs X L - atL X s * atL L s + atL X s * q := by
  unfold sW
  rw [sum_upd (g := fun s => atL X s * atL L s) (s := s) (fun t ht => by rw [at_set h hs, if_neg ht]) (spots_nd cs) (spots_mem.mpr hs), at_set h hs, if_pos rfl]
def eT (X L : List (List Rat)) (p : Spot × Spot) : Rat := (atL X p.1 + atL X p.2) * ((atL L p.1 + atL L p.2) / 2) - atL X p.1 * atL L p.1 - atL X p.2 * atL L p.2
theorem eT_comm (X L : List (List Rat)) (p : Spot × Spot) : eT X L p = eT L X p := by unfold eT; grind
theorem sW_share {X : List (List Rat)} {cs : List Nat} {L0 : List (List Rat)} : ∀ {ts : List (Spot × Spot)} {L : List (List Rat)}, LOk cs L → (∀ p ∈ ts, SpOk cs p.1 ∧ SpOk cs p.2) → (tSpots ts).Nodup → (∀ s ∈ tSpots ts, atL L s = atL L0 s) →
    sW cs X (shareL ts (ts.map fun p => (atL L0 p.1 + atL L0 p.2) / 2) L) = sW cs X L + (ts.map (eT X L0)).sum
  | [], L, _, _, _, _ => by
    show sW cs X L = sW cs X L + _
    rw [List.map_nil, List.sum_nil, Rat.add_zero]
  | p :: ts, L, h, hs, nd, e => by
    obtain ⟨h1, h2⟩ := hs p List.mem_cons_self
    have nd' : (p.1 :: p.2 :: tSpots ts).Nodup := nd
    have n1 := List.nodup_cons.mp nd'
    have n2 := List.nodup_cons.mp n1.2
    have ne : p.2 ≠ p.1 := fun z => n1.1 (by rw [← z]; exact List.mem_cons_self)
    have e1 : atL L p.1 = atL L0 p.1 := e _ (by simp [tSpots])
    have e2 : atL L p.2 = atL L0 p.2 := e _ (by simp [tSpots])
    have ih := sW_share (X := X) (L0 := L0) (ts := ts) (L := setAt (setAt L p.1 ((atL L0 p.1 + atL L0 p.2) / 2)) p.2 ((atL L0 p.1 + atL L0 p.2) / 2)) (setAt_len (setAt_len h)) (fun x hx => hs x (List.mem_cons_of_mem _ hx)) n2.2 fun s hs' => by
      have a1 : s ≠ p.1 := fun z => n1.1 (by rw [← z]; exact List.mem_cons_of_mem _ hs')
      have a2 : s ≠ p.2 := fun z => n2.1 (by rw [← z]; exact hs')
      rw [at_set (setAt_len h) h2, if_neg a2, at_set h h1, if_neg a1]
      exact e s (by simp only [tSpots, List.flatMap_cons]; exact List.mem_append_right _ hs')
    show sW cs X (shareL ts (ts.map fun p => (atL L0 p.1 + atL L0 p.2) / 2) (setAt (setAt L p.1 ((atL L0 p.1 + atL L0 p.2) / 2)) p.2 ((atL L0 p.1 + atL L0 p.2) / 2))) = _
    rw [ih, sW_set (setAt_len h) h2, sW_set h h1, at_set h h1, if_neg ne, e1, e2, List.map_cons, List.sum_cons]
    unfold eT
    grind
theorem at_share_out {cs : List Nat} {s : Spot} : ∀ {ts : List (Spot × Spot)} {rs : List Rat} {L : List (List Rat)}, LOk cs L → (∀ p ∈ ts, SpOk cs p.1 ∧ SpOk cs p.2) → s ∉ tSpots ts → atL (shareL ts rs L) s = atL L s
  | [], _, _, _, _, _ => rfl
  | _ :: _, [], _, _, _, _ => rfl
  | p :: ts, r :: rs, L, h, hs, hn => by
    obtain ⟨h1, h2⟩ := hs p List.mem_cons_self
    have hn' : s ∉ p.1 :: p.2 :: tSpots ts := hn
    simp only [List.mem_cons, not_or] at hn'
    show atL (shareL ts rs (setAt (setAt L p.1 r) p.2 r)) s = _
    rw [at_share_out (setAt_len (setAt_len h)) (fun x hx => hs x (List.mem_cons_of_mem _ hx)) hn'.2.2, at_set (setAt_len h) h2, if_neg hn'.2.1, at_set h h1, if_neg hn'.1]
theorem at_share_in {cs : List Nat} {p : Spot × Spot} {r : Rat} : ∀ {ts : List (Spot × Spot)} {rs : List Rat} {L : List (List Rat)}, LOk cs L → (∀ p ∈ ts, SpOk cs p.1 ∧ SpOk cs p.2) → (tSpots ts).Nodup → (p, r) ∈ ts.zip rs → atL (shareL ts rs L) p.1 = r ∧ atL (shareL ts rs L) p.2 = r
  | [], _, _, _, _, _, hm => by simp at hm
  | _ :: _, [], _, _, _, _, hm => by simp at hm
  | p' :: ts, r' :: rs, L, h, hs, nd, hm => by
    obtain ⟨h1, h2⟩ := hs p' List.mem_cons_self
    have nd' : (p'.1 :: p'.2 :: tSpots ts).Nodup := nd
    have n1 := List.nodup_cons.mp nd'
    have n2 := List.nodup_cons.mp n1.2
    have ne : p'.1 ≠ p'.2 := fun z => n1.1 (by rw [z]; exact List.mem_cons_self)
    have hk : LOk cs (setAt (setAt L p'.1 r') p'.2 r') := setAt_len (setAt_len h)
    have hs' : ∀ p ∈ ts, SpOk cs p.1 ∧ SpOk cs p.2 := fun x hx => hs x (List.mem_cons_of_mem _ hx)
    show atL (shareL ts rs (setAt (setAt L p'.1 r') p'.2 r')) p.1 = r ∧ atL (shareL ts rs (setAt (setAt L p'.1 r') p'.2 r')) p.2 = r
    rw [List.zip_cons_cons] at hm
    rcases List.mem_cons.mp hm with z | z
    · injection z with z1 z2
      subst z1 z2
      have m1 : p.1 ∉ tSpots ts := fun q => n1.1 (List.mem_cons_of_mem _ q)
      rw [at_share_out hk hs' m1, at_share_out hk hs' n2.1, at_set (setAt_len h) h2, if_neg ne, at_set h h1, if_pos rfl, at_set (setAt_len h) h2, if_pos rfl]
      exact ⟨rfl, rfl⟩
    · exact at_share_in hk hs' n2.2 z
/-! shares -/
def shM (M : Mach) (L : List (List Rat)) : List (List Rat) := shareL M.ts (readL M L) L
theorem shM_ok {M : Mach} {L : List (List Rat)} (h : LOk M.cs L) : LOk M.cs (shM M L) := share_ok h
theorem shM_in {M : Mach} (hM : MOk M) {L : List (List Rat)} (h : LOk M.cs L) {p : Spot × Spot} (hp : p ∈ M.ts) : atL (shM M L) p.1 = (atL L p.1 + atL L p.2) / 2 ∧ atL (shM M L) p.2 = (atL L p.1 + atL L p.2) / 2 := by
  refine at_share_in h (fun p hp => ⟨(hM.sp p hp).1, (hM.sp p hp).2.1⟩) hM.nd ?_
  unfold readL
  obtain ⟨i, hi, rfl⟩ := List.getElem_of_mem hp
  refine List.mem_iff_getElem?.mpr ⟨i, ?_⟩
  rw [List.getElem?_zip_eq_some]
  exact ⟨by simp [hi], by simp [hi]⟩
theorem shM_out {M : Mach} (hM : MOk M) {L : List (List Rat)} (h : LOk M.cs L) {s : Spot} (hs : s ∉ tSpots M.ts) : atL (shM M L) s = atL L s :=
  at_share_out h (fun p hp => ⟨(hM.sp p hp).1, (hM.sp p hp).2.1⟩) hs
theorem shM_adj {M : Mach} (hM : MOk M) {X B : List (List Rat)} (hX : LOk M.cs X) (hB : LOk M.cs B) : sW M.cs X (shM M B) = sW M.cs (shM M X) B := by
  have sp : ∀ p ∈ M.ts, SpOk M.cs p.1 ∧ SpOk M.cs p.2 := fun p hp => ⟨(hM.sp p hp).1, (hM.sp p hp).2.1⟩
  rw [sW_comm _ (shM M X)]
  have e1 : sW M.cs X (shM M B) = _ := sW_share (X := X) (L0 := B) (ts := M.ts) (L := B) hB sp hM.nd fun _ _ => rfl
  have e2 : sW M.cs B (shM M X) = _ := sW_share (X := B) (L0 := X) (ts := M.ts) (L := X) hX sp hM.nd fun _ _ => rfl
  rw [e1, e2, sW_comm _ X B]
  congr 2
  exact List.map_congr_left fun p _ => eT_comm _ _ _
/-! rolled -/
def upS (cs : List Nat) (s : Spot) : Spot := (s.1, (s.2 + 1) % cs.getD s.1 0)
def dnS (cs : List Nat) (s : Spot) : Spot := (s.1, (s.2 + (cs.getD s.1 0 - 1)) % cs.getD s.1 0)
theorem up_ok {cs : List Nat} {s : Spot} (h : SpOk cs s) : SpOk cs (upS cs s) ∧ dnS cs (upS cs s) = s := by
  obtain ⟨c, hc, hp⟩ := h
  have e : cs.getD s.1 0 = c := by rw [List.getD_eq_getElem?_getD, hc]; rfl
  unfold upS dnS
  simp only
  rw [e]
  refine ⟨⟨c, hc, Nat.mod_lt _ (by omega)⟩, ?_⟩
  refine Prod.ext rfl ?_
  show ((s.2 + 1) % c + (c - 1)) % c = s.2
  by_cases h : s.2 + 1 < c
  · rw [Nat.mod_eq_of_lt h, show s.2 + 1 + (c - 1) = s.2 + c by omega, Nat.add_mod_right, Nat.mod_eq_of_lt (by omega)]
  · have : s.2 + 1 = c := by omega
    rw [this, Nat.mod_self, Nat.zero_add, Nat.mod_eq_of_lt (by omega)]; omega
theorem dn_ok {cs : List Nat} {s : Spot} (h : SpOk cs s) : SpOk cs (dnS cs s) ∧ upS cs (dnS cs s) = s := by
  obtain ⟨c, hc, hp⟩ := h
  have e : cs.getD s.1 0 = c := by rw [List.getD_eq_getElem?_getD, hc]; rfl
  unfold upS dnS
  simp only
  rw [e]
  refine ⟨⟨c, hc, Nat.mod_lt _ (by omega)⟩, ?_⟩
  refine Prod.ext rfl ?_
  show ((s.2 + (c - 1)) % c + 1) % c = s.2
  by_cases h : s.2 = 0
  · rw [h, Nat.zero_add, Nat.mod_eq_of_lt (show c - 1 < c by omega), show c - 1 + 1 = c by omega, Nat.mod_self]
  · rw [show s.2 + (c - 1) = (s.2 - 1) + c by omega, Nat.add_mod_right, Nat.mod_eq_of_lt (show s.2 - 1 < c by omega), show s.2 - 1 + 1 = s.2 by omega, Nat.mod_eq_of_lt hp]
theorem at_rollS {cs : List Nat} {L : List (List Rat)} {s : Spot} (h : LOk cs L) (hs : SpOk cs s) : atL (rollL L) s = atL L (upS cs s) := by
  obtain ⟨c, hc, hp⟩ := hs
  have e : cs.getD s.1 0 = c := by rw [List.getD_eq_getElem?_getD, hc]; rfl
  unfold upS
  rw [e]
  exact at_roll (w := s.1) (p := s.2) h hc hp
theorem up_perm (cs : List Nat) : ((spotsL cs).flatten.map (upS cs)).Perm (spotsL cs).flatten := by
  have nd : ((spotsL cs).flatten.map (upS cs)).Nodup := by
    have : ∀ l : List Spot, (∀ s ∈ l, SpOk cs s) → l.Nodup → (l.map (upS cs)).Nodup := by
      intro l
      induction l with
      | nil => intro _ _; simp
      | cons a l ih =>
        intro h nd
        rw [List.nodup_cons] at nd
        rw [List.map_cons, List.nodup_cons]
        refine ⟨fun hm => ?_, ih (fun s hs => h s (List.mem_cons_of_mem _ hs)) nd.2⟩
        obtain ⟨b, hb, e⟩ := List.mem_map.mp hm
        have h1 := (up_ok (h b (List.mem_cons_of_mem _ hb))).2
        have h2 := (up_ok (h a List.mem_cons_self)).2
        rw [e, h2] at h1
        subst h1
        exact nd.1 hb
    exact this _ (fun s hs => spots_mem.mp hs) (spots_nd cs)
  refine (List.perm_ext_iff_of_nodup nd (spots_nd cs)).mpr fun s => ?_
  rw [spots_mem]
  constructor
  · intro h
    obtain ⟨t, ht, rfl⟩ := List.mem_map.mp h
    exact (up_ok (spots_mem.mp ht)).1
  · intro h
    exact List.mem_map.mpr ⟨dnS cs s, spots_mem.mpr (dn_ok h).1, (dn_ok h).2⟩
/-- a load by what stands where -/
def mkL (cs : List Nat) (f : Spot → Rat) : List (List Rat) := (spotsL cs).map fun row => row.map f
theorem mkL_ok (cs : List Nat) (f : Spot → Rat) : LOk cs (mkL cs f) := by
  unfold LOk mkL
  rw [List.map_map]
  apply List.ext_getElem?
  intro i
  rw [List.getElem?_map]
  cases hc : cs[i]? with
  | none =>
    have : (spotsL cs)[i]? = none := by
      rw [List.getElem?_eq_none_iff] at hc ⊢
      simpa [spotsL] using hc
    rw [this]; rfl
  | some c => rw [spots_get hc]; simp
theorem at_mk {cs : List Nat} {f : Spot → Rat} {s : Spot} (h : SpOk cs s) : atL (mkL cs f) s = f s := by
  obtain ⟨c, hc, hp⟩ := h
  unfold atL mkL
  simp only [List.getD_eq_getElem?_getD]
  rw [List.getElem?_map, spots_get hc]
  simp [hp]
theorem mkL_at {cs : List Nat} {L : List (List Rat)} (h : LOk cs L) : mkL cs (atL L) = L := load_ext (mkL_ok _ _) h fun s hs => at_mk hs
theorem flat_at {cs : List Nat} {L : List (List Rat)} (h : LOk cs L) : L.flatten = (spotsL cs).flatten.map (atL L) := by
  conv => lhs; rw [← mkL_at h]
  unfold mkL
  rw [List.map_flatten]
theorem dot_sW {cs : List Nat} {X L : List (List Rat)} (hX : LOk cs X) (hL : LOk cs L) : dotQ X.flatten L.flatten = sW cs X L := by
  unfold dotQ sW
  rw [flat_at hX, flat_at hL, List.zipWith_map, List.zipWith_self]
/-- a roll's adjoint -/
theorem roll_adj {cs : List Nat} {A Y : List (List Rat)} (hA : LOk cs A) (hY : LOk cs Y) : sW cs A (rollL Y) = sW cs (mkL cs fun s => atL A (dnS cs s)) Y := by
  unfold sW
  have e1 : ((spotsL cs).flatten.map fun s => atL A s * atL (rollL Y) s) = ((spotsL cs).flatten.map (upS cs)).map fun s => atL A (dnS cs s) * atL Y s := by
    rw [List.map_map]
    refine List.map_congr_left fun s hs => ?_
    have hs := spots_mem.mp hs
    show _ = atL A (dnS cs (upS cs s)) * atL Y (upS cs s)
    rw [at_rollS hY hs, (up_ok hs).2]
  have e2 : ((spotsL cs).flatten.map fun s => atL (mkL cs fun s => atL A (dnS cs s)) s * atL Y s) = (spotsL cs).flatten.map fun s => atL A (dnS cs s) * atL Y s :=
    List.map_congr_left fun s hs => by rw [at_mk (spots_mem.mp hs)]
  rw [e1, e2]
  exact sum_perm ((up_perm cs).map _)
/-! turned about -/
def abS (cs : List Nat) (s : Spot) : Spot := (s.1, (cs.getD s.1 0 - s.2) % cs.getD s.1 0)
theorem at_tb {cs : List Nat} {L : List (List Rat)} {s : Spot} (h : LOk cs L) (hs : SpOk cs s) : atL (tbL L) s = atL L (abS cs s) := by
  obtain ⟨c, hc, hp⟩ := hs
  have e : cs.getD s.1 0 = c := by rw [List.getD_eq_getElem?_getD, hc]; rfl
  obtain ⟨r, hr, hl⟩ := h.get hc
  unfold atL tbL abS
  simp only [List.getD_eq_getElem?_getD] at e ⊢
  rw [List.getElem?_map, hr, e]
  simp only [Option.map_some, Option.getD_some]
  congr 1
  unfold tbR
  obtain ⟨w, p⟩ := s
  simp only at hp ⊢
  cases r with
  | nil => simp at hl; omega
  | cons a r =>
    simp at hl
    by_cases h0 : p = 0
    · subst h0; simp
    · obtain ⟨q, rfl⟩ : ∃ q, p = q + 1 := ⟨p - 1, by omega⟩
      have hq : q < r.length := by omega
      rw [Nat.mod_eq_of_lt (by omega)]
      obtain ⟨m, hm⟩ : ∃ m, c - (q + 1) = m + 1 := ⟨c - (q + 1) - 1, by omega⟩
      rw [hm]
      simp [List.getElem?_reverse hq]
      congr 1
      omega
theorem ab_ok {cs : List Nat} {s : Spot} (h : SpOk cs s) : SpOk cs (abS cs s) ∧ abS cs (abS cs s) = s := by
  obtain ⟨c, hc, hp⟩ := h
  have e : cs.getD s.1 0 = c := by rw [List.getD_eq_getElem?_getD, hc]; rfl
  unfold abS
  simp only
  rw [e]
  refine ⟨⟨c, hc, Nat.mod_lt _ (by omega)⟩, ?_⟩
  refine Prod.ext rfl ?_
  show (c - (c - s.2) % c) % c = s.2
  by_cases h : s.2 = 0
  · rw [h, Nat.sub_zero, Nat.mod_self, Nat.sub_zero, Nat.mod_self]
  · rw [Nat.mod_eq_of_lt (show c - s.2 < c by omega), show c - (c - s.2) = s.2 by omega, Nat.mod_eq_of_lt hp]
theorem tb_tb {cs : List Nat} {L : List (List Rat)} (h : LOk cs L) : tbL (tbL L) = L := load_ext (tbL_ok (tbL_ok h)) h fun s hs => by
  rw [at_tb (tbL_ok h) hs, at_tb h (ab_ok hs).1, (ab_ok hs).2]
theorem mir_nat {cs : List Nat} {s : Spot} (h : SpOk cs s) : mirS cs s = upS cs (abS cs s) ∧ abS cs (mirS cs s) = dnS cs s := by
  have hq := (mirS_ok h).2
  obtain ⟨c, hc, hp⟩ := h
  have e : cs.getD s.1 0 = c := by rw [List.getD_eq_getElem?_getD, hc]; rfl
  have e1 : (mirS cs s).1 = s.1 := rfl
  rw [e] at hq
  have key : (mirS cs s).2 = if s.2 ≤ 1 then (1 - s.2) % c else c + 1 - s.2 := by
    by_cases h1 : s.2 ≤ 1
    · rw [if_pos h1]
      have : (1 - (s.2 : Int)) = ((1 - s.2 : Nat) : Int) := by omega
      rw [this, ← Int.natCast_emod] at hq
      omega
    · rw [if_neg h1]
      have : (1 - (s.2 : Int)) % (c : Int) = (1 - (s.2 : Int) + c) % c := by rw [Int.add_emod_right]
      rw [this, Int.emod_eq_of_lt (by omega) (by omega)] at hq
      omega
  constructor
  · refine Prod.ext rfl ?_
    rw [key]
    unfold upS abS
    simp only
    rw [e]
    by_cases h0 : s.2 = 0
    · rw [h0]; simp
    · rw [Nat.mod_eq_of_lt (show c - s.2 < c by omega)]
      by_cases h1 : s.2 = 1
      · rw [h1]; simp; rw [show c - 1 + 1 = c by omega, Nat.mod_self]
      · rw [if_neg (by omega), Nat.mod_eq_of_lt (by omega)]; omega
  · refine Prod.ext rfl ?_
    unfold abS dnS
    simp only
    rw [e1, e, key]
    by_cases h0 : s.2 = 0
    · rw [h0]
      simp
      by_cases hc1 : c = 1
      · subst hc1; rfl
      · rw [Nat.mod_eq_of_lt (show 1 < c by omega), Nat.mod_eq_of_lt (show c - 1 < c by omega)]
    · by_cases h1 : s.2 = 1
      · rw [h1]; simp; rw [show 1 + (c - 1) = c by omega, Nat.mod_self]
      · rw [if_neg (by omega), Nat.mod_eq_of_lt (by omega), show s.2 + (c - 1) = (s.2 - 1) + c by omega, Nat.add_mod_right, Nat.mod_eq_of_lt (by omega)]; omega
/-! a beat's adjoint -/
theorem mir_ts_perm {M : Mach} (hM : MOk M) : ((mirM M).ts).Perm ((M.ts.map fun p => ordP (mirP M.cs p)).map ordP) :=
  (sortP_ok ((ordP_all _).nodup_iff.mpr (mir_nd hM))).1
theorem mir_ts_spots {M : Mach} (hM : MOk M) : (tSpots (mirM M).ts).Perm ((tSpots M.ts).map (mirS M.cs)) :=
  (tSpots_perm (mir_ts_perm hM)).trans ((ordP_all _).trans (mir_spots _ _))
theorem ordP_two (p : Spot × Spot) : ordP p = p ∨ ordP p = (p.2, p.1) := by
  have h := ordP_spots p
  by_cases e : p.1 = p.2
  · left
    unfold ordP minS maxS
    rw [e]
    simp [sLt_irrefl]
    exact Prod.ext e.symm rfl
  · have := ordP_lt e
    obtain ⟨a, b⟩ := p
    unfold ordP minS maxS
    simp only at e ⊢
    rcases sLt_tri e with q | q
    · left; rw [if_neg (sLt_asymm q), if_pos q]
    · right; rw [if_pos q, if_neg (sLt_asymm q)]
theorem shM_mir {M : Mach} (hM : MOk M) {L : List (List Rat)} (h : LOk M.cs L) {p : Spot × Spot} (hp : p ∈ M.ts) :
    atL (shM (mirM M) L) (mirS M.cs p.1) = (atL L (mirS M.cs p.1) + atL L (mirS M.cs p.2)) / 2 ∧ atL (shM (mirM M) L) (mirS M.cs p.2) = (atL L (mirS M.cs p.1) + atL L (mirS M.cs p.2)) / 2 := by
  have hM' := mir_ok hM
  have hm : ordP (ordP (mirP M.cs p)) ∈ (mirM M).ts := (mir_ts_perm hM).symm.subset (List.mem_map.mpr ⟨_, List.mem_map.mpr ⟨p, hp, rfl⟩, rfl⟩)
  have q := shM_in hM' (L := L) h hm
  have e : ordP (ordP (mirP M.cs p)) = mirP M.cs p ∨ ordP (ordP (mirP M.cs p)) = ((mirP M.cs p).2, (mirP M.cs p).1) := by
    rcases ordP_two (mirP M.cs p) with z | z
    · rw [z]; exact ordP_two _
    · rw [z]
      rcases ordP_two ((mirP M.cs p).2, (mirP M.cs p).1) with y | y
      · exact .inr y
      · exact .inl y
  rcases e with e | e
  · rw [e] at q; exact q
  · rw [e] at q
    simp only at q
    rw [Rat.add_comm (atL L (mirP M.cs p).2)] at q
    exact ⟨q.2, q.1⟩
theorem beat_adj {M : Mach} (hM : MOk M) {A B : List (List Rat)} (hA : LOk M.cs A) (hB : LOk M.cs B) : sW M.cs A (beatL M B) = sW M.cs (tbL (beatL (mirM M) (tbL A))) B := by
  have hM' := mir_ok hM
  have hcs : (mirM M).cs = M.cs := rfl
  have hS : LOk M.cs (shM M B) := shM_ok hB
  have hD := mkL_ok M.cs fun s => atL A (dnS M.cs s)
  have hT := tbL_ok hA
  have hS' : LOk M.cs (shM (mirM M) (tbL A)) := shM_ok (M := mirM M) hT
  show sW M.cs A (rollL (shM M B)) = sW M.cs (tbL (rollL (shM (mirM M) (tbL A)))) B
  rw [roll_adj hA hS, shM_adj hM hD hB]
  congr 1
  refine load_ext (shM_ok hD) (tbL_ok (roll_ok hS')) fun s hs => ?_
  rw [at_tb (roll_ok hS') hs, at_rollS hS' (ab_ok hs).1, ← (mir_nat hs).1]
  have hz : ∀ x, SpOk M.cs x → atL (tbL A) (mirS M.cs x) = atL A (dnS M.cs x) := fun x hx => by
    rw [at_tb hA (mirS_ok hx).1, (mir_nat hx).2]
  by_cases hm : s ∈ tSpots M.ts
  · obtain ⟨p, hp, h⟩ := List.mem_flatMap.mp hm
    obtain ⟨s1, s2, _⟩ := hM.sp p hp
    have a1 := shM_in hM hD hp
    have a2 := shM_mir hM hT hp
    rw [at_mk s1, at_mk s2] at a1
    rw [hz _ s1, hz _ s2] at a2
    simp at h
    rcases h with rfl | rfl
    · rw [a1.1, a2.1]
    · rw [a1.2, a2.2]
  · have hm' : mirS M.cs s ∉ tSpots (mirM M).ts := fun h => by
      obtain ⟨t, ht, e⟩ := List.mem_map.mp ((mir_ts_spots hM).subset h)
      have := mirS_inj (spots_ok hM ht) hs e
      subst this
      exact hm ht
    rw [shM_out hM hD hm, shM_out hM' (L := tbL A) hT hm', at_mk hs, hz s hs]
/-! rows -/
def rowG (M : Mach) (p : Spot × Spot) (j : Nat) : List (List Rat) := tbL (itB (mirM M) j (tbL (halfL M.cs p)))
theorem rowG_ok {M : Mach} {p : Spot × Spot} {j : Nat} : LOk M.cs (rowG M p j) := tbL_ok (it_ok (M := mirM M) (tbL_ok half_ok) j)
theorem rowG_next {M : Mach} {p : Spot × Spot} {j : Nat} : rowG M p (j + 1) = tbL (beatL (mirM M) (tbL (rowG M p j))) := by
  show tbL (beatL (mirM M) (itB (mirM M) j (tbL (halfL M.cs p)))) = _
  congr 2
  exact (tb_tb (it_ok (M := mirM M) (tbL_ok half_ok) j)).symm
theorem row_adj {M : Mach} (hM : MOk M) {p : Spot × Spot} (hp : p ∈ M.ts) : ∀ (j : Nat) {L : List (List Rat)}, LOk M.cs L → (atL (itB M j L) p.1 + atL (itB M j L) p.2) / 2 = sW M.cs (rowG M p j) L
  | 0, L, h => by
    obtain ⟨s1, s2, s3⟩ := hM.sp p hp
    have ne : p.2 ≠ p.1 := fun e => by rw [e] at s3; exact sLt_irrefl _ s3
    have e0 : rowG M p 0 = halfL M.cs p := tb_tb half_ok
    rw [e0, sW_comm]
    unfold halfL
    rw [sW_set (setAt_len zero_ok) s2, sW_set zero_ok s1, at_set zero_ok s1, if_neg ne, at_zero s1, at_zero s2]
    have ez : sW M.cs L (zeroL M.cs) = 0 := by
      unfold sW
      refine sum_zero fun s hs => ?_
      rw [at_zero (spots_mem.mp hs), Rat.mul_zero]
    rw [ez]
    show (atL L p.1 + atL L p.2) / 2 = _
    grind
  | j + 1, L, h => by
    have e : itB M (j + 1) L = itB M j (beatL M L) := by
      have := it_add M L 1 j
      rw [Nat.add_comm 1 j] at this
      exact this.symm
    rw [e, row_adj hM hp j (beat_ok h), rowG_next]
    exact beat_adj hM rowG_ok h
theorem read_at {M : Mach} {L : List (List Rat)} {t : Nat} {p : Spot × Spot} (h : M.ts[t]? = some p) : (readL M L).getD t 0 = (atL L p.1 + atL L p.2) / 2 := by
  unfold readL
  rw [List.getD_eq_getElem?_getD, List.getElem?_map, h]; rfl
theorem dot_nil (n : Nat) : ∀ qs : List Rat, dotQ qs (List.replicate n 0) = 0 := by
  induction n with
  | zero => intro qs; unfold dotQ; simp
  | succ n ih =>
    intro qs
    cases qs with
    | nil => rfl
    | cons q qs =>
      have := ih qs
      unfold dotQ at this ⊢
      rw [List.replicate_succ, List.zipWith_cons_cons, List.sum_cons, this]
      grind
theorem dot_un : ∀ (qs : List Rat) (k : Nat), k < qs.length → dotQ qs (unQ qs.length k) = qs.getD k 0
  | [], k, h => by simp at h
  | q :: qs, 0, _ => by
    unfold unQ
    rw [List.length_cons, List.range_succ_eq_map, List.map_cons, List.map_map]
    have : (List.range qs.length).map ((fun i => if i = 0 then (1 : Rat) else 0) ∘ Nat.succ) = List.replicate qs.length 0 := by
      rw [List.eq_replicate_iff]
      exact ⟨by simp, fun b hb => by obtain ⟨i, _, rfl⟩ := List.mem_map.mp hb; simp⟩
    rw [this]
    have z := dot_nil qs.length qs
    unfold dotQ at z ⊢
    rw [List.zipWith_cons_cons, List.sum_cons, z]
    simp
    grind
  | q :: qs, k + 1, h => by
    have ih := dot_un qs k (by simpa using h)
    unfold unQ at ih ⊢
    rw [List.length_cons, List.range_succ_eq_map, List.map_cons, List.map_map]
    have : (List.range qs.length).map ((fun i => if i = k + 1 then (1 : Rat) else 0) ∘ Nat.succ) = (List.range qs.length).map fun i => if i = k then 1 else 0 := by
      refine List.map_congr_left fun i _ => ?_
      simp
    rw [this]
    unfold dotQ at ih ⊢
    rw [List.zipWith_cons_cons, List.sum_cons, ih]
    simp [Rat.zero_add]
theorem rw_flat {M : Mach} (hM : MOk M) {t : Nat} {p : Spot × Spot} (h : M.ts[t]? = some p) (j : Nat) : rwQ M j t = (rowG M p j).flatten := by
  have hl : (rowG M p j).flatten.length = M.cs.sum := flat_len rowG_ok
  have e : rwQ M j t = (List.range M.cs.sum).map fun k => (rowG M p j).flatten.getD k 0 := by
    unfold rwQ
    refine List.map_congr_left fun k hk => ?_
    have hk := List.mem_range.mp hk
    rw [read_at h, row_adj hM (List.mem_of_getElem? h) j (unit_ok M.cs k), ← dot_sW rowG_ok (unit_ok M.cs k), unit_flat, ← hl, dot_un _ _ (by omega)]
  rw [e]
  generalize (rowG M p j).flatten = F at *
  apply List.ext_getElem?
  intro i
  rw [List.getElem?_map]
  by_cases hi : i < M.cs.sum
  · have hi' : i < F.length := by omega
    rw [List.getElem?_range hi]
    simp [hi']
  · rw [List.getElem?_eq_none (by simp; omega), List.getElem?_eq_none (by omega)]; rfl
/-- a row, shaped as a load -/
theorem rw_split {M : Mach} (hM : MOk M) {t : Nat} {p : Spot × Spot} (h : M.ts[t]? = some p) (j : Nat) : splitL M.cs (rwQ M j t) = rowG M p j := by
  rw [rw_flat hM h, split_flat rowG_ok]
/-- a row paired with a load is what the touch reads -/
theorem rw_dot {M : Mach} (hM : MOk M) {t : Nat} (h : t < M.ts.length) (j : Nat) {L : List (List Rat)} (hL : LOk M.cs L) : dotQ (rwQ M j t) L.flatten = (readL M (itB M j L)).getD t 0 := by
  have hp : M.ts[t]? = some M.ts[t] := by simp [h]
  rw [rw_flat hM hp, dot_sW rowG_ok hL, read_at hp, row_adj hM (List.mem_of_getElem? hp) j hL]
end Ewl
-- DN16
set_option Elab.async false
set_option linter.all false
set_option maxRecDepth 100000
set_option maxHeartbeats 4000000
set_option exponentiation.threshold 10000
/-! The program: sums, products, what is held, squares. -/
namespace Ewl
open PySem L2
noncomputable section
theorem P_times {a b : Nat} {p q : Rat} (h1 : Sz a p) (h2 : Sz b q) (ha : a ≤ 4000) (hb : b ≤ 4000) : F_times [fD p, fD q] = .ok (fD (p * q)) := by
  unfold F_times i_times
  refine runD_go rfl ?_
  have e := P_lowest (t := p.num * q.num) (mul_pos' p q) (den_mul h1 h2 (by omega))
  rw [divInt_times] at e
  simp [bo_mul, num_sm h1, num_sm h2, den_sm h1, den_sm h2, e]
theorem P_less {a b : Nat} {p q : Rat} (h1 : Sz a p) (h2 : Sz b q) (ha : a ≤ 4000) (hb : b ≤ 4000) : F_less [fD p, fD q] = .ok (fD (p - q)) := by
  unfold F_less i_less
  refine runD_go rfl ?_
  have e := P_lowest (t := p.num * q.den - q.num * p.den) (mul_pos' p q) (den_mul h1 h2 (by omega))
  rw [divInt_less] at e
  simp [bo_mul, num_sm h1, num_sm h2, den_sm h1, den_sm h2, e]
/-- the least bottom of all -/
def dnF (qs : List Rat) : Nat := qs.foldl (fun d q => Nat.lcm d q.den) 1
theorem dn_app (qs : List Rat) (q : Rat) : dnF (qs ++ [q]) = Nat.lcm (dnF qs) q.den := by unfold dnF; rw [List.foldl_append]; rfl
theorem dn_pos (qs : List Rat) : 0 < dnF qs := by
  induction qs using rev_ind with
  | h0 => decide
  | h1 qs q ih => rw [dn_app]; exact Nat.lcm_pos ih q.den_pos
theorem dn_lt {k : Nat} (qs : List Rat) (h : ∀ q ∈ qs, Sz k q) : dnF qs ≤ 2 ^ (k * qs.length) := by
  induction qs using rev_ind with
  | h0 => simp [dnF]
  | h1 qs q ih =>
    have h1 := ih fun x hx => h x (List.mem_append_left _ hx)
    have h2 := (h q (by simp)).2
    rw [dn_app, List.length_append, List.length_singleton, Nat.mul_add, Nat.mul_one, Nat.pow_add]
    exact Nat.le_trans (PySem.W.mc_lcm_le _ _) (Nat.mul_le_mul h1 (Nat.le_of_lt h2))
theorem dn_dvd {qs : List Rat} {q : Rat} (h : q ∈ qs) : q.den ∣ dnF qs := by
  induction qs using rev_ind with
  | h0 => cases h
  | h1 qs p ih =>
    rw [dn_app]
    rcases List.mem_append.mp h with z | z
    · exact Nat.dvd_trans (ih z) (Nat.dvd_lcm_left _ _)
    · rw [List.mem_singleton.mp z]; exact Nat.dvd_lcm_right _ _
theorem tot_sum {D : Nat} : ∀ {qs : List Rat}, (∀ q ∈ qs, q.den ∣ D) → (((qs.map fun q => q.num * ((D : Int) / (q.den : Int))).sum : Int) : Rat) = (D : Rat) * qs.sum
  | [], _ => by simp
  | q :: qs, h => by
    have ih := tot_sum (qs := qs) fun x hx => h x (List.mem_cons_of_mem _ hx)
    obtain ⟨m, hm⟩ := h q List.mem_cons_self
    have hd : ((q.den : Nat) : Rat) ≠ 0 := by simp [q.den_nz]
    have e1 : (D : Int) / (q.den : Int) = (m : Int) := by
      rw [hm, Int.natCast_mul, Int.mul_ediv_cancel_left _ (by have := q.den_pos; omega)]
    rw [List.map_cons, List.sum_cons, List.sum_cons, e1]
    push_cast
    rw [ih, hm]
    have := num_den q
    push_cast
    grind
theorem tot_div {qs : List Rat} {D : Nat} (hD : 0 < D) (h : ∀ q ∈ qs, q.den ∣ D) : Rat.divInt (qs.map fun q => q.num * ((D : Int) / (q.den : Int))).sum D = qs.sum := by
  rw [Rat.divInt_eq_div, tot_sum h]
  have : ((D : Nat) : Rat) ≠ 0 := by simp; omega
  push_cast
  grind
theorem P_total {qs : List Rat} {k : Nat} (h : ∀ q ∈ qs, Sz k q) (hl : qs.length ≤ 1000) (hk : k * qs.length ≤ 4000) (hk2 : k ≤ 4000) : F_total [.list (qs.map fD)] = .ok (fD qs.sum) := by
  unfold F_total i_total
  refine runD_go rfl ?_
  simp
  refine for_goD (fun i (t : Sl × Sl) => [.d (.list (qs.map fD)), .d (.int (dnF (qs.take i) : Nat)), t.1, t.2, .x]) (.x, .x) rfl (fun i d t hd => ?_) (fun t => ?_)
  · obtain ⟨q, hq, rfl⟩ := map_get hd
    have hi := (List.getElem?_eq_some_iff.mp hq).1
    have d1 : dnF (qs.take i) ≤ 2 ^ 4000 := Nat.le_trans (dn_lt (k := k) _ fun x hx => h x (List.mem_of_mem_take hx)) (Nat.pow_le_pow_right (by decide) (Nat.le_trans (Nat.mul_le_mul_left _ (by rw [List.length_take]; omega)) hk))
    have d2 : q.den < 2 ^ 4000 := Nat.lt_of_lt_of_le (h q (List.mem_of_getElem? hq)).2 (Nat.pow_le_pow_right (by decide) hk2)
    have d3 : Nat.lcm (dnF (qs.take i)) q.den < 2 ^ 8001 := by
      refine Nat.lt_of_le_of_lt (PySem.W.mc_lcm_le _ _) ?_
      calc dnF (qs.take i) * q.den ≤ 2 ^ 4000 * 2 ^ 4000 := Nat.mul_le_mul d1 (Nat.le_of_lt d2)
        _ = 2 ^ 8000 := by rw [← Nat.pow_add]
        _ < 2 ^ 8001 := Nat.pow_lt_pow_right (by decide) (by decide)
    have e := bi_lcm (i := (dnF (qs.take i) : Nat)) (j := (q.den : Nat)) ⟨by rw [Int.natAbs_natCast]; exact Nat.lt_of_le_of_lt d1 (Nat.pow_lt_pow_right (by decide) (by decide)), by rw [Int.natAbs_natCast]; exact Nat.lt_of_lt_of_le d2 (Nat.pow_le_pow_right (by decide) (by decide)), by
      rw [Int.natAbs_natCast, Int.natAbs_natCast, Int.natAbs_natCast]
      have := log_lt (k := 8001) (by decide) d3
      have e : bitsLine = 134217728 := by decide
      omega⟩
    rw [Int.natAbs_natCast, Int.natAbs_natCast] at e
    refine ⟨(.d (.int q.num), .d (.int q.den)), ?_⟩
    rw [take_more hq, dn_app]
    simp [e]
  · rw [List.length_map, List.take_length]
    have hD := dn_lt qs h
    have hD2 : dnF qs < 2 ^ 8000 := Nat.lt_of_le_of_lt hD (Nat.pow_lt_pow_right (by decide) (by omega))
    have hp := dn_pos qs
    simp
    rw [kLc_eq (by rw [List.length_map]; omega) (by decide)]
    simp
    have eL := P_lowest (t := (qs.map fun q => q.num * ((dnF qs : Int) / (q.den : Int))).sum) (b := (dnF qs : Nat)) (by omega) (by rw [Int.natAbs_natCast]; exact hD2)
    rw [tot_div hp fun q hq => dn_dvd hq] at eL
    have es : (qs.map fun q => PyData.int (q.num * ((dnF qs : Int) / (q.den : Int)))) = (qs.map fun q => q.num * ((dnF qs : Int) / (q.den : Int))).map .int := by rw [List.map_map]; rfl
    simp only [b_as]
    refine lc_goD (fun u : Sl × Sl => [.d (.list (qs.map fD)), .d (.int (dnF qs : Nat)), t.1, u.1, .x]) (fun q => .int (q.num * ((dnF qs : Int) / (q.den : Int)))) (.x, .x) rfl (fun q hq u => ⟨(.x, .x), ?_⟩) (fun u => ?_)
    · have hdp := q.den_pos
      have hs := h q hq
      have m1 := bo_fdiv (i := (dnF qs : Nat)) (j := q.den) (by omega) (by
        rw [Int.natAbs_natCast]
        have := log_lt (k := k + 1) (by omega) (Nat.lt_of_lt_of_le hs.2 (Nat.pow_le_pow_right (by decide) (Nat.le_succ k)))
        omega)
      have hq2 : (dnF qs : Int) / (q.den : Int) = ((dnF qs / q.den : Nat) : Int) := (Int.natCast_ediv _ _).symm
      have m2 := bo_mul (i := q.num) (j := (dnF qs : Int) / (q.den : Int)) (num_sm hs hk2) (by
        rw [hq2]
        exact sm_of (k := 8000) (by rw [Int.natAbs_natCast]; exact Nat.lt_of_le_of_lt (Nat.div_le_self _ _) hD2))
      simp [m1, m2]
    · rw [es]
      simp [eL, -List.map_map]
theorem lc2_map {α β : Type} {step : PyData → Oc (List PyData)} {e : α → PyData} (f : α → List PyData) : ∀ {as : List α}, (∀ a ∈ as, step (e a) = .ok (f a)) → lc2F step (as.map e) = .ok (as.map f).flatten
  | [], _ => rfl
  | a :: as, h => by
    show (step (e a) >>= _) = _
    rw [h a List.mem_cons_self]
    show (lc2F step (as.map e) >>= _) = _
    rw [lc2_map (β := β) f fun b hb => h b (List.mem_cons_of_mem _ hb)]
    rfl
theorem lc1_map {α : Type} {step : PyData → Oc PyData} {e : α → PyData} (f : α → PyData) : ∀ {as : List α}, (∀ a ∈ as, step (e a) = .ok (f a)) → lc1F step (as.map e) = .ok (as.map f)
  | [], _ => rfl
  | a :: as, h => by
    show (step (e a) >>= _) = _
    rw [h a List.mem_cons_self]
    show (lc1F step (as.map e) >>= _) = _
    rw [lc1_map f fun b hb => h b (List.mem_cons_of_mem _ hb)]
    rfl
theorem mem_flat {L : List (List Rat)} {q : Rat} (h : q ∈ L.flatten) : ∃ r ∈ L, q ∈ r := by simpa using h
section
variable {tb : List Fk} {gi : List (Str × Int)} {s : Sls}
def st1 (tb : List Fk) (gi : List (Str × Int)) (v1 : List Nat) (g1 : G) (elt : E) (q : Sls) (d1 : PyData) : Oc PyData := denG g1 (wipeS q v1) d1 >>= fun m1 => denE tb gi elt m1 >>= fun r => if r.1 = m1 then .ok r.2 else .un
def st2 (tb : List Fk) (gi : List (Str × Int)) (own v1 : List Nat) (g : G) (g1 : G) (it1 : I) (elt : E) (s : Sls) (d : PyData) : Oc (List PyData) := denG g (wipeS s own) d >>= fun m => denI tb gi it1 m >>= fun q => if wipeS q.1 own = wipeS s own then lc1F (st1 tb gi v1 g1 elt q.1) q.2 else .un
def kLc2 (tb : List Fk) (gi : List (Str × Int)) (own v1 : List Nat) (g : G) (g1 : G) (it1 : I) (elt : E) (p : Sls × List PyData) : Oc (Sls × List PyData) := if (∀ j ∈ tsG g, j ∈ own) ∧ (∀ j ∈ tsG g1, j ∈ v1) then
      lc2F (st2 tb gi own v1 g g1 it1 elt p.1) p.2 >>= fun ys => if ys.length ≤ 100000 then .ok (wipeS p.1 own, ys) else .un else .un
@[simp] theorem dL_lc2 {own v1 : List Nat} {g : G} {it : I} {g1 : G} {it1 : I} {elt : E} : denL tb gi (.lc2 own v1 g it g1 it1 elt) s = denI tb gi it s >>= kLc2 tb gi own v1 g g1 it1 elt := by simp only [denL]; rfl
/-- two fors: by what the outer and the inner items are made of -/
theorem kLc2_eq {α β : Type} {own v1 : List Nat} {g : G} {g1 : G} {it1 : I} {elt : E} {e : α → PyData} {as : List α} {bs : α → List β} {e1 : β → PyData} (f : α → β → PyData) (q : α → Sls) (h2 : (tsG g).all (own.contains ·) = true) (h3 : (tsG g1).all (v1.contains ·) = true)
    (ho : ∀ a ∈ as, (denG g (wipeS s own) (e a) >>= denI tb gi it1) = .ok (q a, (bs a).map e1) ∧ wipeS (q a) own = wipeS s own)
    (hi : ∀ a ∈ as, ∀ b ∈ bs a, ∃ m1, denG g1 (wipeS (q a) v1) (e1 b) = .ok m1 ∧ denE tb gi elt m1 = .ok (m1, f a b)) (hl : ((as.map fun a => (bs a).map (f a)).flatten).length ≤ 100000) :
    kLc2 tb gi own v1 g g1 it1 elt (s, as.map e) = .ok (wipeS s own, (as.map fun a => (bs a).map (f a)).flatten) := by
  unfold kLc2
  rw [if_pos ⟨fun j hj => List.contains_iff_mem.mp (List.all_eq_true.mp h2 j hj), fun j hj => List.contains_iff_mem.mp (List.all_eq_true.mp h3 j hj)⟩]
  rw [lc2_map (β := β) (fun a => (bs a).map (f a)) fun a ha => ?_]
  · show (if _ then _ else _) = _
    rw [if_pos hl]
  · unfold st2
    obtain ⟨h4, h5⟩ := ho a ha
    obtain ⟨m, h6, h7⟩ := Oc.bind_eq_ok h4
    rw [h6]
    show (denI tb gi it1 m >>= _) = _
    rw [h7]
    show (if wipeS (q a) own = wipeS s own then _ else _) = _
    rw [if_pos h5]
    refine lc1_map (f a) fun b hb => ?_
    obtain ⟨m1, h8, h9⟩ := hi a ha b hb
    unfold st1
    rw [h8]
    show (denE tb gi elt m1 >>= _) = _
    rw [h9]
    show (if m1 = m1 then _ else _) = _
    rw [if_pos rfl]
end
theorem P_held {M : Mach} {L : List (List Rat)} {k : Nat} (hM : MOk M) (hL : LOk M.cs L) (hz : SzL k L) (hk : k ≤ 130) : F_held [mD M, lD L] = .ok (fD (heldL L)) := by
  unfold F_held i_held
  refine runD_go rfl ?_
  have h30 := hM.sum
  have hfl := flat_len hL
  simp [z_load_ok hM hL]
  rw [kLc2_eq (e := rowD) (as := L) (bs := fun r => r) (e1 := fD) (fun _ q => fD q) (fun r => [.d (mD M), .d (lD L), .d (rowD r), .x]) (by decide) (by decide) (fun r hr => by simp) (fun r hr q hq => ⟨[.d (mD M), .d (lD L), .d (rowD r), .d (fD q)], by simp, by simp⟩) (by
    rw [show (L.map fun r => r.map fun q => fD q) = L.map (List.map fD) from rfl, ← List.map_flatten, List.length_map]; omega)]
  have ef : (L.map fun r => r.map fun q => fD q).flatten = L.flatten.map fD := by rw [show (L.map fun r => r.map fun q => fD q) = L.map (List.map fD) from rfl, ← List.map_flatten]
  rw [ef]
  have e := P_total (qs := L.flatten) (k := k) (fun q hq => by obtain ⟨r, h1, h2⟩ := mem_flat hq; exact hz r h1 q h2) (by omega) (by
    have := Nat.mul_le_mul hk (show L.flatten.length ≤ 30 by omega)
    omega) (by omega)
  simp [e, -List.map_flatten]
  rfl
theorem P_squares {M : Mach} {L : List (List Rat)} {k : Nat} (hM : MOk M) (hL : LOk M.cs L) (hz : SzL k L) (hk : k ≤ 60) : F_squares [mD M, lD L] = .ok (fD (squaresL L)) := by
  unfold F_squares i_squares
  refine runD_go rfl ?_
  have h30 := hM.sum
  have hfl := flat_len hL
  simp [z_load_ok hM hL]
  have ef : (L.map fun r => r.map fun q => fD (q * q)).flatten = (L.flatten.map fun q => q * q).map fD := by
    rw [List.map_map, show (L.map fun r => r.map fun q => fD (q * q)) = L.map (List.map (fD ∘ fun q => q * q)) from rfl, ← List.map_flatten]
  rw [kLc2_eq (e := rowD) (as := L) (bs := fun r => r) (e1 := fD) (fun _ q => fD (q * q)) (fun r => [.d (mD M), .d (lD L), .d (rowD r), .x]) (by decide) (by decide) (fun r hr => by simp) (fun r hr q hq => ⟨[.d (mD M), .d (lD L), .d (rowD r), .d (fD q)], by simp, by
    have z := hz r hr q hq
    simp [P_times z z (by omega) (by omega)]⟩) (by
    rw [ef, List.length_map, List.length_map]; omega)]
  rw [ef]
  have e := P_total (qs := L.flatten.map fun q => q * q) (k := k + k) (fun q hq => by
    obtain ⟨p, hp, rfl⟩ := List.mem_map.mp hq
    obtain ⟨r, h1, h2⟩ := mem_flat hp
    exact sz_times (hz r h1 p h2) (hz r h1 p h2)) (by rw [List.length_map]; omega) (by
    rw [List.length_map]
    have := Nat.mul_le_mul (show k + k ≤ 120 by omega) (show L.flatten.length ≤ 30 by omega)
    omega) (by omega)
  simp [e, -List.map_flatten, -List.map_map]
  rfl
end
end Ewl
-- DN17
set_option Elab.async false
set_option linter.all false
set_option maxRecDepth 100000
set_option maxHeartbeats 4000000
set_option exponentiation.threshold 10000
/-! The program: loads added, scaled, empty, of one spot; the laws' squares. -/
namespace Ewl
open PySem L2
noncomputable section
theorem P_beat {M : Mach} {L : List (List Rat)} {k : Nat} (hM : MOk M) (hL : LOk M.cs L) (hz : SzL k L) (hk : k ≤ 1500) : F_beat [mD M, lD L] = .ok (lD (beatL M L)) := by
  unfold F_beat i_beat
  refine runD_go rfl ?_
  simp [z_load_ok hM hL, P_next hM hL hz hk]
theorem P_readM {M : Mach} {L : List (List Rat)} {k : Nat} (hM : MOk M) (hL : LOk M.cs L) (hz : SzL k L) (hk : k ≤ 1500) : F_read [mD M, lD L] = .ok (rowD (readL M L)) := by
  unfold F_read i_read
  refine runD_go rfl ?_
  simp [z_load_ok hM hL, P_read hM hL hz hk]
theorem P_behind {M : Mach} {L : List (List Rat)} {B k : Nat} (hM : MOk M) (hL : LOk M.cs L) (hz : ∀ i, i < B → SzL k (itB M i L)) (hk : k ≤ 1500) (hB : B ≤ 300) : F_behind [mD M, lD L, .int (B : Nat)] = .ok (lD (itB M B L)) := by
  unfold F_behind i_behind
  refine runD_go rfl ?_
  have hr : rngOk (B : Int) := ⟨by omega, by omega⟩
  simp [z_load_ok hM hL, z_beats_ok hB, hr]
  refine for_goD (fun i (t : Sl) => [.d (mD M), .d (lD L), .d (.int (B : Nat)), .d (lD (itB M i L)), t]) .x rfl (fun i d t hd => ?_) (fun t => ?_)
  · obtain ⟨hi, rfl⟩ := rng_item hd
    have e2 := P_next hM (it_ok hL i) (hz i hi) hk
    refine ⟨.d (.int i), ?_⟩
    simp [e2]
    rfl
  · simp
@[simp] theorem zip_LL {s : Sls} {L L' : List (List Rat)} : kZip2 (lD L) (s, lD L') = .ok (s, zipD (L.map rowD) (L'.map rowD)) := rf rfl
@[simp] theorem zip_rr {s : Sls} {r r' : List Rat} : kZip2 (rowD r) (s, rowD r') = .ok (s, zipD (r.map fD) (r'.map fD)) := rf rfl
theorem zip_maps {α β : Type} (f : α → PyData) (g : β → PyData) (as : List α) (bs : List β) : zipD (as.map f) (bs.map g) = (as.zip bs).map fun p => .tuple [f p.1, g p.2] := by
  unfold zipD
  rw [List.zipWith_map, List.zip_eq_zipWith, List.map_zipWith]
theorem row_le {M : Mach} (hM : MOk M) {L : List (List Rat)} (hL : LOk M.cs L) {r : List Rat} (hr : r ∈ L) : r.length ≤ 30 := by
  have h1 := hM.sum
  have h2 : r.length ∈ M.cs := by rw [← hL]; exact List.mem_map.mpr ⟨r, hr, rfl⟩
  have := le_sum h2
  omega
theorem P_added {M : Mach} {L L' : List (List Rat)} {k : Nat} (hM : MOk M) (hL : LOk M.cs L) (hL' : LOk M.cs L') (hz : SzL k L) (hz' : SzL k L') (hk : k ≤ 1500) : F_added [mD M, lD L, lD L'] = .ok (lD (addL L L')) := by
  unfold F_added i_added
  refine runD_go rfl ?_
  have h16 := hM.len2
  have hLl := hL.len
  simp [z_load_ok hM hL, z_load_ok hM hL', zip_maps]
  rw [kLc_eq (by simp; omega) (by decide)]
  simp
  simp only [b_as]
  refine lc_goD (fun u : Sl × Sl => [.d (mD M), .d (lD L), .d (lD L'), .x, .x, u.1, u.2]) (fun p : List Rat × List Rat => rowD (List.zipWith (· + ·) p.1 p.2)) (.x, .x) rfl (fun p hp u => ⟨(.x, .x), ?_⟩) (fun u => ?_)
  · have hm := List.of_mem_zip hp
    have h1 := row_le hM hL hm.1
    simp [zip_maps]
    rw [kLc_eq (by simp; omega) (by decide)]
    simp
    rw [lcF_map (fun q : Rat × Rat => fD (q.1 + q.2)) fun q hq => ?_]
    · simp
      unfold rowD
      rw [List.zip_eq_zipWith, List.map_zipWith, List.map_zipWith]
    · have hq' := List.of_mem_zip hq
      have e := P_plus (hz _ hm.1 _ hq'.1) (hz' _ hm.2 _ hq'.2) (by omega) (by omega)
      simp [e]
  · simp
    unfold lD addL
    rw [List.zip_eq_zipWith, List.map_zipWith, List.map_zipWith]
theorem P_need_frac (q : Rat) : F_need_fraction [fD q] = .ok .none := by
  unfold F_need_fraction i_need_fraction
  refine runD_go rfl ?_
  simp [z_frac_ok]
theorem P_scaled {M : Mach} {L : List (List Rat)} {c : Rat} {k : Nat} (hM : MOk M) (hL : LOk M.cs L) (hz : SzL k L) (hc : Sz k c) (hk : k ≤ 1500) : F_scaled [mD M, lD L, fD c] = .ok (lD (scaleL L c)) := by
  unfold F_scaled i_scaled
  refine runD_go rfl ?_
  have h16 := hM.len2
  have hLl := hL.len
  simp [z_load_ok hM hL, P_need_frac]
  rw [kLc_eq (by simp; omega) (by decide)]
  simp
  rw [lcF_map (fun r => rowD (r.map (· * c))) fun r hr => ?_]
  · simp
    unfold lD scaleL
    rw [List.map_map]; rfl
  · have h1 := row_le hM hL hr
    simp
    rw [kLc_eq (by simp; omega) (by decide)]
    simp
    rw [lcF_map (fun q => fD (q * c)) fun q hq => ?_]
    · simp
      unfold rowD
      rw [List.map_map]; rfl
    · simp [P_times (hz r hr q hq) hc (by omega) (by omega)]
theorem bo_rep {xs : List PyData} {k : Int} (h : 1 ≤ k ∧ k ≤ 1000 ∧ xs ≠ [] ∧ xs.length ≤ 1000) : binD .mul (.tuple xs) (.int k) = .ok (.tuple (List.replicate k.toNat xs).flatten) := if_pos h
theorem P_empty {M : Mach} (hM : MOk M) : F_empty [mD M] = .ok (lD (zeroL M.cs)) := by
  unfold F_empty i_empty
  refine runD_go rfl ?_
  have h16 := hM.len2
  simp [z_mach_ok hM]
  rw [kLc_eq (by simp [zs_len]; omega) (by decide)]
  simp
  unfold zs
  rw [List.map_map, lcF_map (fun c => rowD (List.replicate c 0)) fun c hc => ?_]
  · simp
    unfold lD zeroL
    rw [List.map_map]; rfl
  · have h1 := hM.pos c hc
    have h2 := le_sum hc
    have h3 := hM.sum
    have e := bo_rep (xs := [PyData.tuple [.int 0, .int 1]]) (k := c) ⟨by omega, by omega, by simp, by simp⟩
    simp [e]
    unfold rowD
    simp [fD_zero]
theorem P_spots {M : Mach} (hM : MOk M) : F_spots [mD M] = .ok (.tuple ((spotsL M.cs).flatten.map sD)) := by
  unfold F_spots i_spots
  refine runD_go rfl ?_
  have h16 := hM.len2
  have h30 := hM.sum
  simp [z_mach_ok hM]
  have ee : enumD 0 ((zs M.cs).map .int) = (List.range M.cs.length).map fun w => .tuple [.int (w : Nat), .int (M.cs.getD w 0 : Nat)] := by
    apply List.ext_getElem?
    intro i
    rw [List.getElem?_map]
    by_cases hi : i < M.cs.length
    · rw [List.getElem?_range hi, enumD_get (x := .int (M.cs.getD i 0 : Nat)) (by simp [zs, hi])]; rfl
    · rw [List.getElem?_eq_none (by simp [zs_len]; omega), List.getElem?_eq_none (by simp; omega)]; rfl
  have ef : ((List.range M.cs.length).map fun w => (List.range (M.cs.getD w 0)).map fun p => sD (w, p)).flatten = (spotsL M.cs).flatten.map sD := by
    unfold spotsL
    rw [List.map_flatten, List.map_map]
    congr 1
    refine List.map_congr_left fun w _ => ?_
    rw [Function.comp, List.map_map]; rfl
  rw [ee, kLc2_eq (bs := fun w => List.range (M.cs.getD w 0)) (e1 := fun p : Nat => .int (p : Nat)) (fun w p => sD (w, p)) (fun w => [.d (mD M), .d (.int (w : Nat)), .d (.int (M.cs.getD w 0 : Nat)), .x]) (by decide) (by decide) (fun w hw => ?_) (fun w hw p hp => ⟨[.d (mD M), .d (.int (w : Nat)), .d (.int (M.cs.getD w 0 : Nat)), .d (.int (p : Nat))], by simp, by simp; rfl⟩) (by rw [ef, List.length_map, spots_len]; omega)]
  · rw [ef]
    simp [-List.map_flatten]
    try rw [List.map_flatten]
  · have hw := List.mem_range.mp hw
    have hc : M.cs.getD w 0 ≤ 30 := by
      have : M.cs.getD w 0 ∈ M.cs := by simp [hw]
      have := le_sum this
      omega
    generalize M.cs.getD w 0 = c at *
    have hr : rngOk (c : Int) := ⟨by omega, by omega⟩
    simp [hr, rng_map]
theorem P_need_spot {M : Mach} {s : Spot} (hM : MOk M) (hs : SpOk M.cs s) : F_need_spot [mD M, sD s] = .ok .none := by
  unfold F_need_spot i_need_spot
  refine runD_go rfl ?_
  have e : F_need_spot_on [cD M.cs, sD s] = .ok .none := by
    unfold F_need_spot_on i_need_spot_on
    refine runD_go rfl ?_
    simp [z_spot_ok hs]
  simp [z_mach_ok hM, e]
theorem P_one_at {M : Mach} {s : Spot} (hM : MOk M) (hs : SpOk M.cs s) : F_one_at [mD M, sD s] = .ok (lD (oneL M.cs s)) := by
  unfold F_one_at i_one_at
  refine runD_go rfl ?_
  have h16 := hM.len2
  simp [P_need_spot hM hs]
  rw [kLL_eq (by simp [zs_len]; omega) (by decide)]
  simp
  unfold zs
  rw [List.map_map, lcLF_map (fun c => (List.replicate c (0 : Rat)).map fD) fun c hc => ?_]
  · have ez : (M.cs.map fun c => (List.replicate c (0 : Rat)).map fD) = llD (zeroL M.cs) := by unfold llD zeroL; rw [List.map_map]; rfl
    rw [ez]
    have w1 := fun x => ll_set (s := x) (i := 2) (q := 1) (zero_ok (cs := M.cs)) hs
    rw [fD_one] at w1
    have eh : setAt (zeroL M.cs) s 1 = oneL M.cs s := rfl
    have em : List.map PyData.list (llD (oneL M.cs s)) = (oneL M.cs s).map fun r => .list (r.map fD) := by unfold llD; rw [List.map_map]; rfl
    have hl : LOk M.cs (oneL M.cs s) := one_ok
    have e := P_load_of (L := oneL M.cs s) (by rw [hl.len]; omega)
    rw [← em] at e
    have q1 : denQ [.d (mD M), .d (sD s), .ll (llD (zeroL M.cs)), .x] (.ixv 1 (.int 0)) = .ok (.int (s.1 : Nat)) := rfl
    have q2 : denQ [.d (mD M), .d (sD s), .ll (llD (zeroL M.cs)), .x] (.ixv 1 (.int 1)) = .ok (.int (s.2 : Nat)) := rfl
    simp [q1, q2, w1]
    rw [eh]
    simp [e]
  · have hc30 : c ≤ 30 := Nat.le_trans (le_sum hc) hM.sum
    have b1 : (c : Int) < 9223372036854775808 := by omega
    have b2 : -9223372036854775808 ≤ (c : Int) := by omega
    simp [b1, b2, show c ≤ 100000 by omega, fD_zero]
theorem P_fraction {t b : Int} (h : 0 < b) (hz : b.natAbs < 2 ^ 8000) : F_fraction [.int t, .int b] = .ok (fD (Rat.divInt t b)) := by
  unfold F_fraction i_fraction
  refine runD_go rfl ?_
  have h0 : ¬ b = 0 := by omega
  simp [h0, P_lowest (t := t) h hz]
theorem P_is_load {M : Mach} {L : List (List Rat)} (hM : MOk M) (h : LOk M.cs L) : F_is_load [mD M, lD L] = .ok (.bool true) := by
  unfold F_is_load i_is_load
  refine runD_go rfl ?_
  simp [z_load_ok hM h]
end
end Ewl
-- DN18
set_option Elab.async false
set_option linter.all false
set_option maxRecDepth 100000
set_option maxHeartbeats 4000000
set_option exponentiation.threshold 10000
/-! The law of whole beats: its own squares, what it compares. -/
namespace Ewl
open PySem L2
noncomputable section
theorem low_sq {t b : Int} {q : Rat} (hb : 0 < b) (h : Rat.divInt t b = q) : Rat.divInt (t * t) (b * b) = q * q := by
  subst h
  rw [Rat.divInt_eq_div, Rat.divInt_eq_div]
  have h1 : ((b : Int) : Rat) ≠ 0 := by
    intro e
    have : b = 0 := by exact_mod_cast e
    omega
  push_cast
  grind
theorem neg_fD (q : Rat) : PyData.tuple [.int (0 - q.num), .int (q.den : Nat)] = fD (-q) := by
  unfold fD
  rw [Rat.neg_num, Rat.neg_den, Int.zero_sub]
theorem low_met {g : Rat} : Rat.divInt (g.num * g.num) (2 * (g.den : Nat) * (g.den : Nat)) = g * g / 2 := by
  have h := low_sq (t := g.num) (b := (g.den : Nat)) (q := g) (by have := g.den_pos; omega) (Rat.num_divInt_den g)
  rw [← h, Rat.divInt_eq_div, Rat.divInt_eq_div]
  have h1 : ((g.den : Nat) : Rat) ≠ 0 := by simp [g.den_nz]
  push_cast
  grind
theorem at_last {α : Type} (xs : List α) (x : α) : atI (xs ++ [x]) (-1) = some x := by
  unfold atI ixN
  rw [if_neg (by decide), if_pos (by simp; omega)]
  have : (-1 + (((xs ++ [x]).length : Nat) : Int)).toNat = xs.length := by rw [List.length_append, List.length_singleton]; omega
  show (xs ++ [x])[(-1 + (((xs ++ [x]).length : Nat) : Int)).toNat]? = some x
  rw [this]
  simp
theorem sq_part {M : Mach} {L : List (List Rat)} (hM : MOk M) (hL : LOk M.cs L) (hz : SzL 45 L) {a : List Rat} (h : a <+: L.flatten) : Sz 3000 (a.map fun q => q * q).sum := by
  have hfl := flat_len hL
  have hsum := hM.sum
  have hl := h.length_le
  refine (sz_sum (k := 90) fun q hq => ?_).mono ?_
  · obtain ⟨p, hp, rfl⟩ := List.mem_map.mp hq
    obtain ⟨r, hr', hq'⟩ := mem_flat (h.subset hp)
    exact sz_times (hz r hr' p hq') (hz r hr' p hq')
  · rw [List.length_map]
    have := Nat.mul_le_mul_right 91 (show a.length ≤ 30 by omega)
    omega
theorem pre_flat {L : List (List Rat)} {i : Nat} {r : List Rat} (h1 : L[i]? = some r) (j : Nat) : (L.take i).flatten ++ r.take j <+: L.flatten := by
  have e : L = L.take i ++ r :: L.drop (i + 1) := by
    obtain ⟨hi, hp⟩ := List.getElem?_eq_some_iff.mp h1
    rw [← hp]; simp
  have e2 : L.flatten = (L.take i).flatten ++ (r ++ (L.drop (i + 1)).flatten) := by
    conv => lhs; rw [e]
    rw [List.flatten_append, List.flatten_cons]
  rw [e2]
  refine (List.prefix_append_right_inj _).mpr ?_
  exact (List.take_prefix j r).trans (List.prefix_append _ _)
/-- the squares so far -/
def sqA (L : List (List Rat)) (i j : Nat) : Rat := (((L.take i).flatten ++ (L.getD i []).take j).map fun q => q * q).sum
theorem sqA_0 (L : List (List Rat)) (i : Nat) : sqA L i 0 = (((L.take i).flatten).map fun q => q * q).sum := by unfold sqA; rw [List.take_zero, List.append_nil]
theorem sqA_row {L : List (List Rat)} {i : Nat} {r : List Rat} (h : L[i]? = some r) : sqA L i r.length = sqA L (i + 1) 0 := by
  rw [sqA_0, flat_take h]
  unfold sqA
  rw [List.getD_eq_getElem?_getD, h]
  simp
theorem sqA_next {L : List (List Rat)} {i j : Nat} {r : List Rat} {q : Rat} (h : L[i]? = some r) (h2 : r[j]? = some q) : sqA L i (j + 1) = sqA L i j + q * q := by
  unfold sqA
  rw [List.getD_eq_getElem?_getD, h]
  simp only [Option.getD_some]
  rw [take_more h2, ← List.append_assoc, List.map_append, List.sum_append]
  simp [Rat.add_zero]
theorem z_lsquares {M : Mach} {L : List (List Rat)} (hM : MOk M) (hL : LOk M.cs L) (hz : SzL 45 L) : F__law_squares [lD L] = .ok (fD (squaresL L)) := by
  unfold F__law_squares i__law_squares
  refine runD_go rfl ?_
  simp [← fD_zero]
  refine for_goD (fun i (t : Sl × Sl × Sl) => [.d (lD L), .d (fD (sqA L i 0)), t.1, t.2.1, t.2.2]) (.x, .x, .x) (by rw [sqA_0]; rfl) (fun i d t hd => ?_) (fun t => ?_)
  · obtain ⟨r, hr, rfl⟩ := map_get hd
    have hrm := List.mem_of_getElem? hr
    simp [-Prod.exists]
    refine for_goP (fun x => ∃ t' : Sl × Sl × Sl, x = .ok (.nx [.d (lD L), .d (fD (sqA L (i + 1) 0)), t'.1, t'.2.1, t'.2.2])) (fun j (u : Sl × Sl) => [.d (lD L), .d (fD (sqA L i j)), .d (rowD r), u.1, u.2]) (t.2.1, t.2.2) rfl (fun j d u hd => ?_) (fun u => ?_)
    · obtain ⟨q, hq, rfl⟩ := map_get hd
      have zq := hz r hrm q (List.mem_of_getElem? hq)
      have zp : Sz 3000 (sqA L i j) := by
        unfold sqA
        rw [List.getD_eq_getElem?_getD, hr]
        exact sq_part hM hL hz (pre_flat hr j)
      have hb0 : (0 : Int) < (q.den : Nat) := by have := q.den_pos; omega
      have e1 := z_llow (t := q.num * q.num) (b := (q.den : Int) * (q.den : Int)) (Int.mul_pos hb0 hb0) (den_mul zq zq (by decide))
      rw [low_sq hb0 (Rat.num_divInt_den q)] at e1
      have e2 := z_lplus zp (sz_times zq zq) (by decide) (by decide)
      refine ⟨(.d (.int q.num), .d (.int q.den)), ?_⟩
      rw [sqA_next hr hq]
      simp [bo_mul, num_sm zq, den_sm zq, e1, e2]
    · rw [List.length_map, sqA_row hr]
      exact ⟨(.d (rowD r), u.1, u.2), by simp⟩
  · rw [List.length_map, sqA_0, List.take_length]
    simp [-List.map_flatten]
    rfl
theorem met_sz1 {M : Mach} {L : List (List Rat)} (hM : MOk M) (hL : LOk M.cs L) (hz : SzL 45 L) {p : Spot × Spot} (hp : p ∈ M.ts) : Sz 91 (atL L p.1 + -atL L p.2) ∧ Sz 183 (metT L p) := by
  obtain ⟨s1, s2, _⟩ := hM.sp p hp
  have zg : Sz 91 (atL L p.1 + -atL L p.2) := sz_plus (sz_at hL hz s1) (sz_neg (sz_at hL hz s2))
  exact ⟨zg, sz_half (sz_times zg zg)⟩
theorem met_part {M : Mach} {L : List (List Rat)} (hM : MOk M) (hL : LOk M.cs L) (hz : SzL 45 L) (i : Nat) : Sz 3000 ((M.ts.take i).map (metT L)).sum := by
  have h8 := hM.tl
  refine (sz_sum (k := 183) fun q hq => ?_).mono ?_
  · obtain ⟨p, hp, rfl⟩ := List.mem_map.mp hq
    exact (met_sz1 hM hL hz (List.mem_of_mem_take hp)).2
  · rw [List.length_map, List.length_take]
    have := Nat.mul_le_mul_right 184 (show min i M.ts.length ≤ 8 by omega)
    omega
theorem z_lmet {M : Mach} {L : List (List Rat)} (hM : MOk M) (hL : LOk M.cs L) (hz : SzL 45 L) : F__law_met [mD M, lD L] = .ok (fD (metL M L)) := by
  unfold F__law_met i__law_met
  refine runD_go rfl ?_
  simp [← fD_zero]
  refine for_goD (fun i (t : Sl × Sl × Sl × Sl × Sl) => [.d (mD M), .d (lD L), .d (fD ((M.ts.take i).map (metT L)).sum), t.1, t.2.1, t.2.2.1, t.2.2.2.1, t.2.2.2.2]) (.x, .x, .x, .x, .x) rfl (fun i d t hd => ?_) (fun t => ?_)
  · obtain ⟨p, hp, rfl⟩ := map_get hd
    have hpm := List.mem_of_getElem? hp
    obtain ⟨s1, s2, _⟩ := hM.sp p hpm
    obtain ⟨r1, a1, a2⟩ := at_spot hL s1
    obtain ⟨r2, b1, b2⟩ := at_spot hL s2
    have z1 := sz_at hL hz s1
    have z2 := sz_at hL hz s2
    obtain ⟨zg, zm⟩ := met_sz1 hM hL hz hpm
    have e1 := z_lplus z1 (sz_neg z2) (by decide) (by decide)
    rw [← neg_fD (atL L p.2)] at e1
    have hz' : PyData.tuple [.int (0 - (atL L p.2).num), .int ((atL L p.2).den : Int)] = .tuple [.int (-(atL L p.2).num), .int ((atL L p.2).den : Int)] := by rw [Int.zero_sub]
    rw [hz'] at e1
    have hg0 : (0 : Int) < ((atL L p.1 + -atL L p.2).den : Nat) := by have := (atL L p.1 + -atL L p.2).den_pos; omega
    have m0 := bo_mul (i := 2) (j := (atL L p.1 + -atL L p.2).den) (sm_lt (by decide)) (den_sm zg (by decide))
    have hd2 := den2 zg (by decide)
    have hw : ((2 : Int) * ((atL L p.1 + -atL L p.2).den : Nat)).natAbs < 2 ^ 92 := by
      have := zg.2
      rw [Nat.pow_succ]; omega
    have m1 := bo_mul (i := 2 * ((atL L p.1 + -atL L p.2).den : Int)) (j := (atL L p.1 + -atL L p.2).den) (sm_of hw) (den_sm zg (by decide))
    have m2 := bo_mul (i := (atL L p.1 + -atL L p.2).num) (j := (atL L p.1 + -atL L p.2).num) (num_sm zg (by decide)) (num_sm zg (by decide))
    have e2 := z_llow (t := (atL L p.1 + -atL L p.2).num * (atL L p.1 + -atL L p.2).num) (b := 2 * ((atL L p.1 + -atL L p.2).den : Int) * ((atL L p.1 + -atL L p.2).den : Int)) (Int.mul_pos (by omega) hg0) (by
      rw [Int.natAbs_mul, Int.natAbs_natCast]
      exact pow_le_8000 (lt_mul2 hw zg.2))
    rw [low_met] at e2
    have e3 := z_lplus (met_part hM hL hz i) zm (by decide) (by decide)
    have em : (atL L p.1 + -atL L p.2) * (atL L p.1 + -atL L p.2) / 2 = metT L p := rfl
    rw [em] at e2
    refine ⟨(.d (.int p.1.1), .d (.int p.1.2), .d (.int p.2.1), .d (.int p.2.2), .d (fD (atL L p.1 + -atL L p.2))), ?_⟩
    have en : ((M.ts.take (i + 1)).map (metT L)).sum = ((M.ts.take i).map (metT L)).sum + metT L p := by
      rw [take_more hp, List.map_append, List.sum_append]; simp [Rat.add_zero]
    show stF _ _ _ _ [.d (mD M), .d (lD L), .d (fD ((M.ts.take i).map (metT L)).sum), t.1, t.2.1, t.2.2.1, t.2.2.2.1, t.2.2.2.2] _ = Oc.ok (.nx [.d (mD M), .d (lD L), .d (fD ((M.ts.take (i + 1)).map (metT L)).sum), .d (.int p.1.1), .d (.int p.1.2), .d (.int p.2.1), .d (.int p.2.2), .d (fD (atL L p.1 + -atL L p.2))])
    rw [en]
    generalize ((M.ts.take i).map (metT L)).sum = S at *
    simp [ix_l' a1, ix_r a2, ix_l' b1, ix_r b2, e1, m0, m1, m2, e2, e3]
  · rw [List.length_map, List.take_length]
    simp
    rfl
end
end Ewl
-- LW02
set_option Elab.async false
set_option linter.all false
set_option maxRecDepth 100000
set_option maxHeartbeats 8000000
set_option exponentiation.threshold 10000
/-! The law of whole beats of loads. -/
namespace Ewl
open PySem L2
noncomputable section
theorem neSame {n : Nat} {d : PyData} (h : Sh n d) (k : n ≤ 64 := by decide) : cmpD .ne d d = .ok false := by
  rw [co_ne (h.shaped k) (h.shaped k), eqv_self d h.1]; rfl
theorem eqSame {n : Nat} {d : PyData} (h : Sh n d) (k : n ≤ 64 := by decide) : cmpD .eq d d = .ok true := by
  rw [co_eq (h.shaped k) (h.shaped k), eqv_self d h.1]
def toldL (M : Mach) (L : List (List Rat)) (n : Nat) : List PyData := (List.range n).map fun i => rowD (readL M (itB M i L))
theorem told_succ {M : Mach} {L : List (List Rat)} {n : Nat} : toldL M L (n + 1) = toldL M L n ++ [rowD (readL M (itB M n L))] := by simp [toldL, List.range_succ]
theorem sq_sz {M : Mach} {L : List (List Rat)} (hM : MOk M) (hL : LOk M.cs L) (hz : SzL 45 L) : Sz 3000 (squaresL L) := by
  have hfl := flat_len hL
  have hsum := hM.sum
  refine (sz_sum (k := 90) fun q hq => ?_).mono ?_
  · obtain ⟨p, hp, rfl⟩ := List.mem_map.mp hq
    obtain ⟨r, hr', hq'⟩ := mem_flat hp
    exact sz_times (hz r hr' p hq') (hz r hr' p hq')
  · rw [List.length_map]
    have := Nat.mul_le_mul_right 91 (show L.flatten.length ≤ 30 by omega)
    omega
theorem met_sz {M : Mach} {L : List (List Rat)} (hM : MOk M) (hL : LOk M.cs L) (hz : SzL 45 L) : Sz 3000 (metL M L) := by
  have h8 := hM.tl
  refine (sz_sum (k := 183) fun q hq => ?_).mono ?_
  · obtain ⟨p, hp, rfl⟩ := List.mem_map.mp hq
    obtain ⟨s1, s2, _⟩ := hM.sp p hp
    have zg : Sz 91 (atL L p.1 + -atL L p.2) := sz_plus (sz_at hL hz s1) (sz_neg (sz_at hL hz s2))
    exact sz_half (sz_times zg zg)
  · rw [List.length_map]
    have := Nat.mul_le_mul_right 184 (show M.ts.length ≤ 8 by omega)
    omega
theorem sh_told (M : Mach) (L : List (List Rat)) (n : Nat) : Sh 3 (.list (toldL M L n)) := sh_lst fun d hd => by
  obtain ⟨i, _, rfl⟩ := List.mem_map.mp hd
  exact sh_rowD _
theorem zip3_item {xs ys zs : List PyData} {i : Nat} {d : PyData} (h : (zip3D xs ys zs)[i]? = some d) : ∃ x y z, xs[i]? = some x ∧ ys[i]? = some y ∧ zs[i]? = some z ∧ d = .tuple [x, y, z] := by
  unfold zip3D at h
  rw [List.getElem?_zipWith] at h
  cases hx : xs[i]? with
  | none => rw [hx] at h; cases h
  | some x =>
    cases hyz : (ys.zip zs)[i]? with
    | none => rw [hx, hyz] at h; cases h
    | some yz =>
      obtain ⟨h1, h2⟩ := List.getElem?_zip_eq_some.mp hyz
      rw [hx, hyz] at h
      exact ⟨x, yz.1, yz.2, rfl, h1, h2, (Option.some.inj h).symm⟩
theorem szl_at {cs : List Nat} {L : List (List Rat)} {k : Nat} (h : LOk cs L) (e : ∀ s, SpOk cs s → Sz k (atL L s)) : SzL k L := fun r hr q hq => by
  obtain ⟨s, hs, rfl⟩ := mem_at h hr hq
  exact e s hs
theorem at_szl {cs : List Nat} {L : List (List Rat)} {k : Nat} {s : Spot} (h : LOk cs L) (hz : SzL k L) (hs : SpOk cs s) : Sz k (atL L s) := by
  obtain ⟨r, hr, _, hq⟩ := h.spot hs
  exact hz r (List.mem_of_getElem? hr) _ (List.mem_of_getElem? hq)
theorem alone_sz {cs : List Nat} {L : List (List Rat)} {s : Spot} (h : LOk cs L) (hz : SzL 45 L) (hs : SpOk cs s) : SzL 1400 (scaleL (oneL cs s) (atL L s)) := szl_at (scale_ok one_ok) fun t ht => by
  rw [at_scale one_ok ht, at_one hs ht]
  have := at_szl h hz hs
  split
  · rw [Rat.one_mul]; exact this.mono (by decide)
  · rw [Rat.zero_mul]; exact sz_zero (by decide)
theorem acc_sz {cs : List Nat} {L : List (List Rat)} {ss : List Spot} (h : LOk cs L) (hz : SzL 45 L) (hs : ∀ s ∈ ss, SpOk cs s) (nd : ss.Nodup) : SzL 1400 (accL cs L ss (zeroL cs)) := szl_at (acc_ok zero_ok) fun t ht => by
  rw [at_acc ht zero_ok hs nd, at_zero ht, Rat.zero_add]
  split
  · exact (at_szl h hz ht).mono (by decide)
  · exact sz_zero (by decide)
theorem one_sz {cs : List Nat} {s : Spot} (hs : SpOk cs s) : SzL 1400 (oneL cs s) := szl_at one_ok fun t ht => by
  rw [at_one hs ht]
  split
  · exact sz_one (by decide)
  · exact sz_zero (by decide)
theorem zero_sz {cs : List Nat} : SzL 1400 (zeroL cs) := szl_at zero_ok fun t ht => by rw [at_zero ht]; exact sz_zero (by decide)
theorem scale_sz {cs : List Nat} {L : List (List Rat)} {c : Rat} (h : LOk cs L) (hz : SzL 45 L) (hc : Sz 45 c) : SzL 1400 (scaleL L c) := szl_at (scale_ok h) fun t ht => by
  rw [at_scale h ht]; exact (sz_times (at_szl h hz ht) hc).mono (by decide)
theorem slice_take3 (xs : List PyData) : sliceD xs none (some 3) = xs.take 3 := by
  unfold sliceD HT.sIx
  match xs with
  | [] => rfl
  | [_] => rfl
  | [_, _] => rfl
  | a :: b :: c :: xs => simp
theorem by_bd {t b : Int} (h1 : -9 ≤ t) (h2 : t ≤ 9) (h3 : 1 ≤ b) (h4 : b ≤ 5) : Bd 60 9 (Rat.divInt t b) := by
  have hb : b = 1 ∨ b = 2 ∨ b = 3 ∨ b = 4 ∨ b = 5 := by omega
  rcases hb with rfl | rfl | rfl | rfl | rfl
  · exact ⟨by decide, t * 60, by rw [show (1 : Int) = ((1 : Nat) : Int) from rfl, Rat.divInt_ofNat, Rat.mkRat_eq_iff (by decide) (by decide)]; push_cast; omega, by omega⟩
  · exact ⟨by decide, t * 30, by rw [show (2 : Int) = ((2 : Nat) : Int) from rfl, Rat.divInt_ofNat, Rat.mkRat_eq_iff (by decide) (by decide)]; push_cast; omega, by omega⟩
  · exact ⟨by decide, t * 20, by rw [show (3 : Int) = ((3 : Nat) : Int) from rfl, Rat.divInt_ofNat, Rat.mkRat_eq_iff (by decide) (by decide)]; push_cast; omega, by omega⟩
  · exact ⟨by decide, t * 15, by rw [show (4 : Int) = ((4 : Nat) : Int) from rfl, Rat.divInt_ofNat, Rat.mkRat_eq_iff (by decide) (by decide)]; push_cast; omega, by omega⟩
  · exact ⟨by decide, t * 12, by rw [show (5 : Int) = ((5 : Nat) : Int) from rfl, Rat.divInt_ofNat, Rat.mkRat_eq_iff (by decide) (by decide)]; push_cast; omega, by omega⟩
theorem by_sz {q : Rat} (h : Bd 60 9 q) : Sz 45 q := h.sz (by decide) (by decide)
theorem sub_self' (c : Rat) : c - c = 0 := by grind
theorem half_half (c : Rat) : c / 2 + c / 2 = c := by grind
theorem load_all {span : Int} {cs : List Nat} {s : DS} : LOk cs (llX span cs s).2 := by
  have := load_ok (span := span) (cs := cs) (s := s) cs.length (Nat.le_refl _)
  rwa [List.take_length] at this
theorem load_dall {b : Nat} {span : Int} {cs : List Nat} {s : DS} (h : DOk b s) : DOk (b + 2 * cs.sum) (llX span cs s).1 := by
  have := load_dok (span := span) (cs := cs) h cs.length (Nat.le_refl _)
  rwa [List.take_length] at this
theorem z_goes {M : Mach} {L : List (List Rat)} {n : Nat} (hM : MOk M) (hL : LOk M.cs L) (hn : n ≤ 12) (hz : ∀ i, i ≤ n → SzL 45 (itB M i L)) : F__law_goes_right [mD M, lD L, .int (n : Nat)] = .ok (.bool true) := by
  unfold F__law_goes_right i__law_goes_right
  refine runD_go rfl ?_
  have z0 : SzL 45 L := hz 0 (Nat.zero_le _)
  have hr : rngOk (n : Int) := ⟨by omega, by omega⟩
  simp [P_squares hM hL z0 (by decide), z_lsquares hM hL z0, neSame (sh_fD _), hr]
  refine for_goD (fun i (t : Sl × Sl × Sl) => [.d (mD M), .d (lD L), .d (.int (n : Nat)), .d (lD (itB M i L)), .l (toldL M L i), .d (fD (squaresL L)), t.1, t.2.1, t.2.2, .x]) (.x, .x, .x) rfl (fun i d t hd => ?_) (fun t => ?_)
  · obtain ⟨hi, rfl⟩ := rng_item hd
    have hLi := it_ok hL i
    have hLa : LOk M.cs (beatL M (itB M i L)) := it_ok hL (i + 1)
    have zi := hz i (by omega)
    have za : SzL 45 (beatL M (itB M i L)) := hz (i + 1) (by omega)
    have e1 := z_readR hM hLi zi (by decide)
    have e2 := z_beat hM hLi zi (by decide)
    have e3 := z_lmet hM hLi zi
    have e4 := P_readM hM hLi zi (by decide)
    have e5 := P_beat hM hLi zi (by decide)
    have e6 := P_held hM hLa za (by decide)
    have e7 := P_held hM hL z0 (by decide)
    have eh : heldL (beatL M (itB M i L)) = heldL L := held_it hM hL (i + 1)
    rw [eh] at e6
    have e8 := P_squares hM hLa za (by decide)
    have e9 := P_plus (sq_sz hM hLa za) (met_sz hM hLi zi) (by decide) (by decide)
    rw [squares_beat hM hLi] at e9
    have e10 := P_squares hM hLi zi (by decide)
    have htl : (toldL M L i).length ≤ 100000 := by simp [toldL]; omega
    have hat := at_last (toldL M L i) (rowD (readL M (itB M i L)))
    refine ⟨(.d (.int i), .d (lD (beatL M (itB M i L))), .d (fD (metL M (itB M i L)))), ?_⟩
    rw [told_succ]
    simp [e1, htl, e2, e3, e4, hat, neSame (sh_rowD _), e5, neSame (sh_lD _), e6, e7, neSame (sh_fD _), e8, e9, e10]
    rfl
  · rw [rl_eq]
    have b1 := P_behind hM hL (B := n) (fun i hi => hz i (by omega)) (by decide) (by omega)
    have r1 := P_readings hM hL (B := n) (fun i hi => hz i (by omega)) (by decide) (by omega)
    rw [show (List.range n).map (fun i => rowD (readL M (itB M i L))) = toldL M L n from rfl] at r1
    have b2 := P_behind hM hL (B := n / 2) (fun i hi => hz i (by omega)) (by decide) (by omega)
    have b3 := P_behind hM (it_ok hL (n / 2)) (B := n - n / 2) (k := 45) (fun i hi => by rw [it_add]; exact hz _ (by omega)) (by decide) (by omega)
    rw [it_add, show n / 2 + (n - n / 2) = n by omega] at b3
    have d1 := bo_fdiv (i := n) (j := 2) (by decide) (by decide)
    rw [show (n : Int) / 2 = ((n / 2 : Nat) : Int) from (Int.natCast_ediv _ _).symm] at d1
    have d2 : (n : Int) - ((n / 2 : Nat) : Int) = ((n - n / 2 : Nat) : Int) := by omega
    have nt := neSame (sh_told M L n)
    generalize n / 2 = m at *
    simp [b1, neSame (sh_lD _), r1, nt, d1, b2, d2, b3, eqSame (sh_lD _)]
theorem dI_zip3 {tb : List Fk} {gi : List (Str × Int)} {s : Sls} {a b c : E} {xs ys zs : List PyData} (h1 : denE tb gi a s = .ok (s, .tuple xs)) (h2 : denE tb gi b s = .ok (s, .tuple ys)) (h3 : denE tb gi c s = .ok (s, .tuple zs)) (hl : xs.length = ys.length ∧ xs.length = zs.length) :
    denI tb gi (.zip3 a b c) s = .ok (s, zip3D xs ys zs) := by
  simp only [denI]
  rw [h1]
  show (denE tb gi b s >>= _) = _
  rw [h2]
  show (denE tb gi c s >>= _) = _
  rw [h3]
  show (if _ then _ else _) = _
  rw [if_pos hl]
theorem z_adds {M : Mach} {L L' : List (List Rat)} {c : Rat} {n : Nat} (hM : MOk M) (hL : LOk M.cs L) (hL' : LOk M.cs L') (hn : n ≤ 12) (hc : Sz 45 c) (hz : ∀ i, i ≤ n → SzL 45 (itB M i L) ∧ SzL 45 (itB M i L') ∧ SzL 45 (itB M i (addL L (scaleL L' c)))) :
    F__law_adds_right [mD M, lD L, lD L', fD c, .int (n : Nat)] = .ok (.bool true) := by
  unfold F__law_adds_right i__law_adds_right
  refine runD_go rfl ?_
  obtain ⟨z0, z0', zb0⟩ := hz 0 (Nat.zero_le _)
  have z0 : SzL 45 L := z0
  have z0' : SzL 45 L' := z0'
  have hS := scale_ok (c := c) hL'
  have hB : LOk M.cs (addL L (scaleL L' c)) := add_ok hL hS
  have zS := scale_sz hL' z0' hc
  have hLn := it_ok hL n
  have hLn' := it_ok hL' n
  obtain ⟨zn, zn', zbn⟩ := hz n (Nat.le_refl _)
  have spOk : ∀ s ∈ (spotsL M.cs).flatten, SpOk M.cs s := fun s hs => spots_mem.mp hs
  have e1 := P_scaled hM hL' z0' hc (by decide)
  have e2 := P_added hM hL hS (z0.mono (show 45 ≤ 1400 by decide)) zS (by decide)
  have ez : ∀ t : List Sl, denI [.dd F_added, .dd F_scaled, .dd F_plus, .dd F_times, .dd F_behind, .dd F_empty, .dd F_spots, .dd F_one_at] [] (.zip3 (.var 5) (.var 1) (.var 2)) (.d (mD M) :: .d (lD L) :: .d (lD L') :: .d (fD c) :: .d (.int (n : Nat)) :: .d (lD (addL L (scaleL L' c))) :: t) = .ok (.d (mD M) :: .d (lD L) :: .d (lD L') :: .d (fD c) :: .d (.int (n : Nat)) :: .d (lD (addL L (scaleL L' c))) :: t, zip3D ((addL L (scaleL L' c)).map rowD) (L.map rowD) (L'.map rowD)) := fun t =>
    dI_zip3 (by simp; rfl) (by simp; rfl) (by simp; rfl) (by simp [hB.len, hL.len, hL'.len])
  simp [e1, e2, ez]
  refine for_goD (fun _ (u : Sl × Sl × Sl) => [.d (mD M), .d (lD L), .d (lD L'), .d (fD c), .d (.int (n : Nat)), .d (lD (addL L (scaleL L' c))), u.1, u.2.1, u.2.2, .x, .x, .x, .x, .x, .x, .x]) (.x, .x, .x) rfl (fun i d u hd => ?_) (fun u => ?_)
  · obtain ⟨x1, x2, x3, g1, g2, g3, rfl⟩ := zip3_item hd
    obtain ⟨rb, h1, rfl⟩ := map_get g1
    obtain ⟨r, h2, rfl⟩ := map_get g2
    obtain ⟨r', h3, rfl⟩ := map_get g3
    have h30 := row_le hM hL (List.mem_of_getElem? h2)
    have eb : rb = List.zipWith (fun x y => x + y * c) r r' := by
      have : (addL L (scaleL L' c))[i]? = some (List.zipWith (fun x y => x + y * c) r r') := by
        unfold addL scaleL
        simp [List.getElem?_zipWith, h2, h3, List.zipWith_map_right]
      rw [this] at h1; exact (Option.some.inj h1).symm
    refine ⟨(.d (rowD rb), .d (rowD r), .d (rowD r')), ?_⟩
    simp [list_row, zip_maps]
    rw [kLc_eq (by simp; omega) (by decide)]
    simp
    rw [lcF_map (fun p : Rat × Rat => fD (p.1 + p.2 * c)) fun p hp => ?_]
    · have ee : (r.zip r').map (fun p : Rat × Rat => fD (p.1 + p.2 * c)) = rb.map fD := by
        rw [eb, List.zip_eq_zipWith, List.map_zipWith, List.map_zipWith]
      rw [ee]
      have nl := neSame (d := .list (rb.map fD)) (n := 2) (sh_lst fun d hd => by obtain ⟨q, _, rfl⟩ := List.mem_map.mp hd; exact sh_fD q)
      simp [nl]
    · have hm := List.of_mem_zip hp
      have zp := z0 r (List.mem_of_getElem? h2) p.1 hm.1
      have zq := z0' r' (List.mem_of_getElem? h3) p.2 hm.2
      have f1 := P_times zq hc (by decide) (by decide)
      have f2 := P_plus zp (sz_times zq hc) (by decide) (by decide)
      simp [f1, f2]
  · have b1 := P_behind hM hL (B := n) (fun i hi => (hz i (by omega)).1) (by decide) (by omega)
    have b2 := P_behind hM hL' (B := n) (fun i hi => (hz i (by omega)).2.1) (by decide) (by omega)
    have b3 := P_scaled hM hLn' zn' hc (by decide)
    have b4 := P_added hM hLn (scale_ok hLn') (zn.mono (show 45 ≤ 1400 by decide)) (scale_sz hLn' zn' hc) (by decide)
    have b5 := P_behind hM hB (B := n) (fun i hi => (hz i (by omega)).2.2) (by decide) (by omega)
    rw [it_lin hM hL hL' n] at b5
    have b6 := P_added hM hL zero_ok (z0.mono (show 45 ≤ 1400 by decide)) zero_sz (by decide)
    rw [add_zero' hL] at b6
    have nl := fun X => neSame (sh_lD X)
    simp [b1, b2, b3, b4, b5, nl, P_empty hM, b6, P_spots hM, -List.map_flatten]
    refine for_goD (fun i (v : Sl × Sl × Sl) => [.d (mD M), .d (lD L), .d (lD L'), .d (fD c), .d (.int (n : Nat)), .d (lD (addL L (scaleL L' c))), u.1, u.2.1, u.2.2, .d (lD (addL (itB M n L) (scaleL (itB M n L') c))), .d (lD (accL M.cs L ((spotsL M.cs).flatten.take i) (zeroL M.cs))), v.1, v.2.1, v.2.2, .x, .x]) (.x, .x, .x) rfl (fun i d v hd => ?_) (fun v => ?_)
    · obtain ⟨sp, h1, rfl⟩ := map_get hd
      have hs := spOk sp (List.mem_of_getElem? h1)
      obtain ⟨r1, a1, a2⟩ := at_spot hL hs
      have hacc : LOk M.cs (accL M.cs L ((spotsL M.cs).flatten.take i) (zeroL M.cs)) := acc_ok zero_ok
      have zacc := acc_sz hL z0 (fun s hs => spOk s (List.mem_of_mem_take hs)) ((List.take_sublist i _).nodup (spots_nd M.cs))
      have f1 := P_one_at hM hs
      have f2 := P_scaled hM (one_ok (s := sp)) (one_sz hs) ((at_szl hL z0 hs).mono (show 45 ≤ 1400 by decide)) (by decide)
      have f3 := P_added hM hacc (scale_ok one_ok) zacc (alone_sz hL z0 hs) (by decide)
      have ea : accL M.cs L ((spotsL M.cs).flatten.take (i + 1)) (zeroL M.cs) = addL (accL M.cs L ((spotsL M.cs).flatten.take i) (zeroL M.cs)) (scaleL (oneL M.cs sp) (atL L sp)) := by rw [take_more h1, acc_app]
      refine ⟨(.d (.int sp.1), .d (.int sp.2), .d (lD (scaleL (oneL M.cs sp) (atL L sp)))), ?_⟩
      rw [ea]
      have es : PyData.tuple [.int (sp.1 : Nat), .int (sp.2 : Nat)] = sD sp := rfl
      generalize accL M.cs L ((spotsL M.cs).flatten.take i) (zeroL M.cs) = Y at *
      simp [es, f1, ix_l' a1, ix_r a2, f2, f3]
    · rw [List.length_map, List.take_length, acc_all hL]
      simp [eqSame (sh_lD _)]
theorem law02 (ns : List Int) (hns : ns.length ≤ 63) : F_law_v2 [.list (ns.map .int)] = .ok (.bool true) := by
  unfold F_law_v2 i_law_v2
  refine runD_go rfl ?_
  simp [slice_take3, show min 3 ns.length ≤ 99999 by omega]
  refine for_goD (fun _ (t : Sl × Sl × Sl × Sl × Sl × Sl × Sl) => [.d (.list (ns.map .int)), t.1, t.2.1, t.2.2.1, t.2.2.2.1, t.2.2.2.2.1, t.2.2.2.2.2.1, t.2.2.2.2.2.2]) (.x, .x, .x, .x, .x, .x, .x) rfl (fun i d t hd => ?_) (fun t => ?_)
  · have hi : i ≤ 4 := by
      have := (List.getElem?_eq_some_iff.mp hd).1
      simp at this
      omega
    obtain ⟨x, hx, rfl⟩ := enum_item hd
    obtain ⟨cell, rfl⟩ : ∃ c : Int, x = .int c := by
      have := List.mem_of_getElem? hx
      simp at this
      rcases this with h | h
      · obtain ⟨c, _, rfl⟩ := List.mem_map.mp (by rw [← List.map_take] at h; exact h)
        exact ⟨c, rfl⟩
      · exact ⟨_, h⟩
    have hDr := z_draw (cell := cell) (k := i) (by omega) (by omega)
    have d1 : DOk 1000 (startS cell i) := ⟨by show 0 ≤ 1000 * (i : Int); omega, by show 1000 * (i : Int) ≤ _; omega⟩
    generalize startS cell i = s1 at *
    have hm := z_machine (M := 18) 1000 d1 (by decide) (by decide) (by decide)
    obtain ⟨d2, hM, _⟩ := lm_ok (M := 18) (by decide) (by decide) d1
    generalize (lmX 18 s1).2 = M at *
    generalize (lmX 18 s1).1 = s2 at *
    have hs30 := hM.sum
    have hl16 := hM.len2
    have hl1 := z_load (s := s2) (cs := M.cs) (span := 9) 1025 d2 (by decide) (by omega) (by omega) (by decide) (by decide)
    have d3 := load_dall (span := 9) (cs := M.cs) d2
    have hL : LOk M.cs (llX 9 M.cs s2).2 := load_all
    have bL : BdL 6 9 (llX 9 M.cs s2).2 := load_bd (m := 9) rfl _
    generalize (llX 9 M.cs s2).1 = s3 at *
    generalize (llX 9 M.cs s2).2 = L at *
    have hl2 := z_load (s := s3) (cs := M.cs) (span := 40) (1025 + 2 * M.cs.sum) d3 (by omega) (by omega) (by omega) (by decide) (by decide)
    have d4 := load_dall (span := 40) (cs := M.cs) d3
    have hL' : LOk M.cs (llX 40 M.cs s3).2 := load_all
    have bL' : BdL 6 40 (llX 40 M.cs s3).2 := load_bd (m := 40) rfl _
    generalize (llX 40 M.cs s3).1 = s4 at *
    generalize (llX 40 M.cs s3).2 = L' at *
    have q1 := z_digit (s := s4) (n := 19) _ d4 (by omega) (by decide) (by decide)
    have g1 := dig_lt (s := s4) (n := 19) (by decide)
    have d5 := dig_ok (n := 19) d4
    generalize digI s4 19 = i1 at *
    generalize digS s4 19 = s5 at *
    have q2 := z_digit (s := s5) (n := 5) _ d5 (by omega) (by decide) (by decide)
    have g2 := dig_lt (s := s5) (n := 5) (by decide)
    have d6 := dig_ok (n := 5) d5
    generalize digI s5 5 = i2 at *
    generalize digS s5 5 = s6 at *
    have q3 := z_digit (s := s6) (n := 13) _ d6 (by omega) (by decide) (by decide)
    have g3 := dig_lt (s := s6) (n := 13) (by decide)
    have d7 := dig_ok (n := 13) d6
    obtain ⟨n, en⟩ : ∃ n : Nat, digI s6 13 = n := ⟨_, (Int.toNat_of_nonneg g3.1).symm⟩
    rw [en] at q3 g3
    generalize digS s6 13 = s7 at *
    have q4 := z_digit (s := s7) (n := 5) _ d7 (by omega) (by decide) (by decide)
    have g4 := dig_lt (s := s7) (n := 5) (by decide)
    obtain ⟨m, em⟩ : ∃ m : Nat, digI s7 5 = m := ⟨_, (Int.toNat_of_nonneg g4.1).symm⟩
    rw [em] at q4 g4
    generalize digS s7 5 = s8 at *
    have hf := P_fraction (t := i1 - 9) (b := 1 + i2) (by omega) (pow_le_8000 (k := 20) (by omega))
    have bc : Bd 60 9 (Rat.divInt (i1 - 9) (1 + i2)) := by_bd (by omega) (by omega) (by omega) (by omega)
    generalize Rat.divInt (i1 - 9) (1 + i2) = c at *
    have zc := by_sz bc
    have bB : BdL 360 369 (addL L (scaleL L' c)) := bd_add (n := 9) (n' := 360) hL (scale_ok hL') (fun r hr q hq => (bL r hr q hq).mul (e := 60) (by decide)) (bd_scale hL' bL' bc)
    have zL := sz_it hM hL bL 12 (k := 45) (by decide) (by decide)
    have zL' := sz_it hM hL' bL' 12 (k := 45) (by decide) (by decide)
    have zB := sz_it hM (add_ok hL (scale_ok hL')) bB 12 (k := 45) (by decide) (by decide)
    have w1 := z_goes hM hL (n := n) (by omega) fun j hj => zL j (by omega)
    have w2 := z_adds hM hL hL' (n := m) (by omega) zc fun j hj => ⟨zL j (by omega), zL' j (by omega), zB j (by omega)⟩
    have h1 := P_half zc (by decide)
    have h2 := P_plus (sz_half zc) (sz_half zc) (by decide) (by decide)
    rw [half_half] at h2
    have h3 := P_less zc zc (by decide) (by decide)
    rw [sub_self', fD_zero] at h3
    have nf := fun q => neSame (sh_fD q)
    have nz : cmpD .ne (.tuple [.int 0, .int 1]) (.tuple [.int 0, .int 1]) = .ok false := nf 0
    have nn : cmpD .isN .none .none = .ok false := rfl
    refine ⟨(.d (.int i), .d (.int cell), .dk none (dsK s8), .d (mD M), .d (lD L), .d (lD L'), .d (fD c)), ?_⟩
    simp [hDr, hm, hl1, hl2, q1, q2, hf, P_is_load hM hL, z_load_ok hM hL', nn, q3, w1, q4, w2, h1, h2, h3, nf, nz]
  · simp
end
end Ewl
-- Hk02
set_option Elab.async false
set_option linter.all false
open PySem PySem.W PyProof.Rows in
set_option maxRecDepth 100000 in
set_option maxHeartbeats 0 in
theorem PySem.Challenge.cw_evenwheels_k02_whole_beats_of_loads_holds : PySem.Challenge.rw_evenwheels_k02_whole_beats_of_loads.Holds := by
  w_on; o_law; k_head; (case hw => w_witness2)
  k_fill
  refine Ewl.walkR (x := "script") (l := PySem.Challenge.rw_evenwheels_k02_whole_beats_of_loads) rfl rfl (fun w h Y => PySem.W.kIn_of Y) ?F
  case F =>
    intro w mg fa h KX G hmg
    refine Ewl.all_mk ?D KX G hmg Ewl.law02
    case D =>
      constructor
      case D_law_draw =>
        refine' Ewl.DefSt.mk' ?a ?l ?c ?k
        (case a => k_is)
        (case l => k_is)
        (case c => k_is)
        (case k => k_is)
      case D_law_mixed =>
        refine' Ewl.DefSt.mk' ?a ?l ?c ?k
        (case a => k_is)
        (case l => k_is)
        (case c => k_is)
        (case k => k_is)
      case D_law_digit =>
        refine' Ewl.DefSt.mk' ?a ?l ?c ?k
        (case a => k_is)
        (case l => k_is)
        (case c => k_is)
        (case k => k_is)
      case D_law_counts =>
        refine' Ewl.DefSt.mk' ?a ?l ?c ?k
        (case a => k_is)
        (case l => k_is)
        (case c => k_is)
        (case k => k_is)
      case D_law_touches =>
        refine' Ewl.DefSt.mk' ?a ?l ?c ?k
        (case a => k_is)
        (case l => k_is)
        (case c => k_is)
        (case k => k_is)
      case D_law_machine =>
        refine' Ewl.DefSt.mk' ?a ?l ?c ?k
        (case a => k_is)
        (case l => k_is)
        (case c => k_is)
        (case k => k_is)
      case D_law_lowest =>
        refine' Ewl.DefSt.mk' ?a ?l ?c ?k
        (case a => k_is)
        (case l => k_is)
        (case c => k_is)
        (case k => k_is)
      case D_law_load =>
        refine' Ewl.DefSt.mk' ?a ?l ?c ?k
        (case a => k_is)
        (case l => k_is)
        (case c => k_is)
        (case k => k_is)
      case Dis_whole =>
        refine' Ewl.DefSt.mk' ?a ?l ?c ?k
        (case a => k_is)
        (case l => k_is)
        (case c => k_is)
        (case k => k_is)
      case Dlowest =>
        refine' Ewl.DefSt.mk' ?a ?l ?c ?k
        (case a => k_is)
        (case l => k_is)
        (case c => k_is)
        (case k => k_is)
      case Dfraction =>
        refine' Ewl.DefStV.mk' ?a ?l ?c ?k ?lT
        (case a => k_is)
        (case l => k_is)
        (case c => k_is)
        (case k => k_is)
        (case lT => k_is)
      case Dis_tuple_of =>
        refine' Ewl.DefSt.mk' ?a ?l ?c ?k
        (case a => k_is)
        (case l => k_is)
        (case c => k_is)
        (case k => k_is)
      case Dare_counts =>
        refine' Ewl.DefSt.mk' ?a ?l ?c ?k
        (case a => k_is)
        (case l => k_is)
        (case c => k_is)
        (case k => k_is)
      case Dis_spot_of =>
        refine' Ewl.DefSt.mk' ?a ?l ?c ?k
        (case a => k_is)
        (case l => k_is)
        (case c => k_is)
        (case k => k_is)
      case Dis_pair_of =>
        refine' Ewl.DefSt.mk' ?a ?l ?c ?k
        (case a => k_is)
        (case l => k_is)
        (case c => k_is)
        (case k => k_is)
      case Dneed_touches =>
        refine' Ewl.DefSt.mk' ?a ?l ?c ?k
        (case a => k_is)
        (case l => k_is)
        (case c => k_is)
        (case k => k_is)
      case Dneed_machine =>
        refine' Ewl.DefSt.mk' ?a ?l ?c ?k
        (case a => k_is)
        (case l => k_is)
        (case c => k_is)
        (case k => k_is)
      case Dis_fraction =>
        refine' Ewl.DefSt.mk' ?a ?l ?c ?k
        (case a => k_is)
        (case l => k_is)
        (case c => k_is)
        (case k => k_is)
      case Dneed_load_on =>
        refine' Ewl.DefSt.mk' ?a ?l ?c ?k
        (case a => k_is)
        (case l => k_is)
        (case c => k_is)
        (case k => k_is)
      case Dneed_load =>
        refine' Ewl.DefSt.mk' ?a ?l ?c ?k
        (case a => k_is)
        (case l => k_is)
        (case c => k_is)
        (case k => k_is)
      case Dis_load =>
        refine' Ewl.DefSt.mk' ?a ?l ?c ?k
        (case a => k_is)
        (case l => k_is)
        (case c => k_is)
        (case k => k_is)
      case Dtotal =>
        refine' Ewl.DefSt.mk' ?a ?l ?c ?k
        (case a => k_is)
        (case l => k_is)
        (case c => k_is)
        (case k => k_is)
      case Dtimes =>
        refine' Ewl.DefSt.mk' ?a ?l ?c ?k
        (case a => k_is)
        (case l => k_is)
        (case c => k_is)
        (case k => k_is)
      case Dsquares =>
        refine' Ewl.DefSt.mk' ?a ?l ?c ?k
        (case a => k_is)
        (case l => k_is)
        (case c => k_is)
        (case k => k_is)
      case D_law_plus =>
        refine' Ewl.DefSt.mk' ?a ?l ?c ?k
        (case a => k_is)
        (case l => k_is)
        (case c => k_is)
        (case k => k_is)
      case D_law_squares =>
        refine' Ewl.DefSt.mk' ?a ?l ?c ?k
        (case a => k_is)
        (case l => k_is)
        (case c => k_is)
        (case k => k_is)
      case D_law_read =>
        refine' Ewl.DefSt.mk' ?a ?l ?c ?k
        (case a => k_is)
        (case l => k_is)
        (case c => k_is)
        (case k => k_is)
      case D_law_met =>
        refine' Ewl.DefSt.mk' ?a ?l ?c ?k
        (case a => k_is)
        (case l => k_is)
        (case c => k_is)
        (case k => k_is)
      case D_law_beat =>
        refine' Ewl.DefSt.mk' ?a ?l ?c ?k
        (case a => k_is)
        (case l => k_is)
        (case c => k_is)
        (case k => k_is)
      case Dhalf =>
        refine' Ewl.DefSt.mk' ?a ?l ?c ?k
        (case a => k_is)
        (case l => k_is)
        (case c => k_is)
        (case k => k_is)
      case Dplus =>
        refine' Ewl.DefSt.mk' ?a ?l ?c ?k
        (case a => k_is)
        (case l => k_is)
        (case c => k_is)
        (case k => k_is)
      case D_read =>
        refine' Ewl.DefSt.mk' ?a ?l ?c ?k
        (case a => k_is)
        (case l => k_is)
        (case c => k_is)
        (case k => k_is)
      case D_load_of =>
        refine' Ewl.DefSt.mk' ?a ?l ?c ?k
        (case a => k_is)
        (case l => k_is)
        (case c => k_is)
        (case k => k_is)
      case Dnext_load =>
        refine' Ewl.DefSt.mk' ?a ?l ?c ?k
        (case a => k_is)
        (case l => k_is)
        (case c => k_is)
        (case k => k_is)
      case Dbeat =>
        refine' Ewl.DefSt.mk' ?a ?l ?c ?k
        (case a => k_is)
        (case l => k_is)
        (case c => k_is)
        (case k => k_is)
      case Dread =>
        refine' Ewl.DefSt.mk' ?a ?l ?c ?k
        (case a => k_is)
        (case l => k_is)
        (case c => k_is)
        (case k => k_is)
      case Dheld =>
        refine' Ewl.DefSt.mk' ?a ?l ?c ?k
        (case a => k_is)
        (case l => k_is)
        (case c => k_is)
        (case k => k_is)
      case Dneed_beats =>
        refine' Ewl.DefSt.mk' ?a ?l ?c ?k
        (case a => k_is)
        (case l => k_is)
        (case c => k_is)
        (case k => k_is)
      case Dreadings =>
        refine' Ewl.DefSt.mk' ?a ?l ?c ?k
        (case a => k_is)
        (case l => k_is)
        (case c => k_is)
        (case k => k_is)
      case Dbehind =>
        refine' Ewl.DefSt.mk' ?a ?l ?c ?k
        (case a => k_is)
        (case l => k_is)
        (case c => k_is)
        (case k => k_is)
      case D_law_goes_right =>
        refine' Ewl.DefSt.mk' ?a ?l ?c ?k
        (case a => k_is)
        (case l => k_is)
        (case c => k_is)
        (case k => k_is)
      case Dadded =>
        refine' Ewl.DefSt.mk' ?a ?l ?c ?k
        (case a => k_is)
        (case l => k_is)
        (case c => k_is)
        (case k => k_is)
      case Dneed_fraction =>
        refine' Ewl.DefSt.mk' ?a ?l ?c ?k
        (case a => k_is)
        (case l => k_is)
        (case c => k_is)
        (case k => k_is)
      case Dscaled =>
        refine' Ewl.DefSt.mk' ?a ?l ?c ?k
        (case a => k_is)
        (case l => k_is)
        (case c => k_is)
        (case k => k_is)
      case Dempty =>
        refine' Ewl.DefSt.mk' ?a ?l ?c ?k
        (case a => k_is)
        (case l => k_is)
        (case c => k_is)
        (case k => k_is)
      case Dspots =>
        refine' Ewl.DefSt.mk' ?a ?l ?c ?k
        (case a => k_is)
        (case l => k_is)
        (case c => k_is)
        (case k => k_is)
      case Dneed_spot_on =>
        refine' Ewl.DefSt.mk' ?a ?l ?c ?k
        (case a => k_is)
        (case l => k_is)
        (case c => k_is)
        (case k => k_is)
      case Dneed_spot =>
        refine' Ewl.DefSt.mk' ?a ?l ?c ?k
        (case a => k_is)
        (case l => k_is)
        (case c => k_is)
        (case k => k_is)
      case Done_at =>
        refine' Ewl.DefSt.mk' ?a ?l ?c ?k
        (case a => k_is)
        (case l => k_is)
        (case c => k_is)
        (case k => k_is)
      case D_law_adds_right =>
        refine' Ewl.DefSt.mk' ?a ?l ?c ?k
        (case a => k_is)
        (case l => k_is)
        (case c => k_is)
        (case k => k_is)
      case Dless =>
        refine' Ewl.DefSt.mk' ?a ?l ?c ?k
        (case a => k_is)
        (case l => k_is)
        (case c => k_is)
        (case k => k_is)
      case Dlaw =>
        refine' Ewl.DefSt.mk' ?a ?l ?c ?k
        (case a => k_is)
        (case l => k_is)
        (case c => k_is)
        (case k => k_is)
      (case Nabs => k_is)
      (case Nenumerate => k_is)
      (case Nint => k_is)
      (case Nlen => k_is)
      (case Nlist => k_is)
      (case Nmax => k_is)
      (case Nmin => k_is)
      (case Nrange => k_is)
      (case Nsorted => k_is)
      (case Nsum => k_is)
      (case Ntuple => k_is)
      (case Ntype => k_is)
      (case Nzip => k_is)
      (case Ngcd => k_is)
      (case Nlcm => k_is)
      case IMOST_BEATS =>
        refine' Ewl.IntSt.mk' ?a
        (case a => k_is)
      case IMOST_CELLS =>
        refine' Ewl.IntSt.mk' ?a
        (case a => k_is)
      case IMOST_TOUCHES =>
        refine' Ewl.IntSt.mk' ?a
        (case a => k_is)
      case IMOST_WHEELS =>
        refine' Ewl.IntSt.mk' ?a
        (case a => k_is)
#print axioms PySem.Challenge.cw_evenwheels_k02_whole_beats_of_loads_holds
