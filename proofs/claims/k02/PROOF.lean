import PyProof.Rows.All
import Wide.All
import OpenK.AllK
import Wide.FinOn
import HandS.ForMost
import HandS.Gcd
import HandS.TupMul
import HandS.Zip
import HandS.TupLe
import HandS.Walk
import HandS.Wide
import KE.KTupSum
import KE.SortData
import KE.DataMinMax
import PyProof.TypeEq
import PyProof.TypeOfCall
import KE.GoesEnum
import HandS.Style
import HandS.Exc
import HandS.Defaults
import PySem.Challenge.RW_evenwheels_k02_whole_beats_of_loads
set_option Elab.async false
set_option linter.all false
set_option maxRecDepth 100000
set_option maxHeartbeats 2000000
/-! Data, not addresses: what a def's body does, told of data in slots. By an AI agent. -/
namespace Ewl
open PySem L2

/-! ### heaps that grow -/
def Ex (H H' : Hp) : Prop := ∀ a o, H a = some o → H' a = some o
theorem Ex.refl (H : Hp) : Ex H H := fun _ _ h => h
theorem Ex.trans {H H1 H2 : Hp} (a : Ex H H1) (b : Ex H1 H2) : Ex H H2 := fun x o h => b x o (a x o h)
theorem Ex.new {H : Hp} {p : Addr} {o : HO} (h : H p = none) : Ex H (upd H p o) := fun a u e => by
  rw [upd_ne (ne_of_none e h)]
  exact e
theorem Ex.back {H H' : Hp} {p : Addr} (e : Ex H H') (h : H' p = none) : H p = none := by
  cases h1 : H p with
  | none => rfl
  | some o => rw [e p o h1] at h; cases h
theorem Ex.put {H H' : Hp} {p : Addr} {o : HO} (e : Ex H H') (h : H p = none) : Ex H (upd H' p o) := fun a u ha => by
  rw [upd_ne (ne_of_none ha h)]
  exact e a u ha
theorem Ex.both {H H' : Hp} {p : Addr} {o : HO} (e : Ex H H') : Ex (upd H p o) (upd H' p o) := fun a u ha => by
  by_cases q : a = p
  · subst q; rw [upd_same] at ha ⊢; exact ha
  · rw [upd_ne q] at ha ⊢; exact e a u ha
theorem ex_rd {H H' : Hp} {a : Addr} {u : HO} (e : Ex H H') (h : Rd H a u) : Rd H' a u := by
  rcases h with h | ⟨o, h⟩
  · exact .inl (e a _ h)
  · exact .inr ⟨o, e a _ h⟩
theorem ex_l {K : PySem.W.Frag} {H H' : Hp} {a : Addr} {xs : List V} (e : Ex H H') (h : SqL K H a xs) : SqL K H' a xs := by
  rcases h with h | h
  · exact .inl (ex_rd e h)
  · exact .inr h
theorem ex_t {K : PySem.W.Frag} {H H' : Hp} {a : Addr} {xs : List V} (e : Ex H H') (h : SqT K H a xs) : SqT K H' a xs := by
  rcases h with h | h
  · exact .inl (ex_rd e h)
  · exact .inr h
mutual
/-- v is the data d: tuples and lists by their items; what is written here stays -/
inductive Dd (K : PySem.W.Frag) (H : Hp) : V → PyData → Prop
  | non : Dd K H .non .none
  | bl (b : Bool) : Dd K H (.bl b) (.bool b)
  | int (i : Int) : Dd K H (.int i) (.int i)
  | str (x : Str) : Dd K H (.str x) (.str x)
  | lst {a : Addr} {xs : List V} {ds : List PyData} : SqL K H a xs → DdAll K H xs ds → Dd K H (.ref a) (.list ds)
  | tup {a : Addr} {xs : List V} {ds : List PyData} : H a = some (.tup xs) → DdAll K H xs ds → Dd K H (.ref a) (.tuple ds)
inductive DdAll (K : PySem.W.Frag) (H : Hp) : List V → List PyData → Prop
  | nil : DdAll K H [] []
  | cons {v : V} {vs : List V} {d : PyData} {ds : List PyData} : Dd K H v d → DdAll K H vs ds → DdAll K H (v :: vs) (d :: ds)
end
mutual
theorem dd_dp {K : PySem.W.Frag} {H : Hp} : ∀ (d : PyData) {v : V}, Dd K H v d → Dp K H v d
  | .none, _, h => by cases h; exact .non
  | .bool b, _, h => by cases h; exact .bl b
  | .int i, _, h => by cases h; exact .int i
  | .str x, _, h => by cases h; exact .str x
  | .list ds, _, h => by
    cases h with
    | lst s a => exact .lst s (ddAll_dp ds a)
  | .tuple ds, _, h => by
    cases h with
    | tup s a => exact .tup (SqT.of s) (ddAll_dp ds a)
  | .dict _, _, h => by cases h
theorem ddAll_dp {K : PySem.W.Frag} {H : Hp} : ∀ (ds : List PyData) {vs : List V}, DdAll K H vs ds → DpAll K H vs ds
  | [], _, h => by cases h; exact .nil
  | d :: ds, _, h => by
    cases h with
    | cons h1 h2 => exact .cons (dd_dp d h1) (ddAll_dp ds h2)
end
theorem ddReads {X : Cx} {pins : List (Addr × Obj)} {σ : L2.St} {H : Hp} {s : Shared} (I : L2.Inv X pins σ H s) (d : PyData) (v : V) (u : Value) (h : Dd X.K H v d) (r : RelV v u) : ∃ as, Reads s.heap u d as := Dp.reads I d v u (dd_dp d h) r
mutual
theorem dp_mono {K : PySem.W.Frag} {H H' : Hp} (e : Ex H H') : ∀ (d : PyData) {v : V}, Dd K H v d → Dd K H' v d
  | .none, _, h => by cases h; exact .non
  | .bool b, _, h => by cases h; exact .bl b
  | .int i, _, h => by cases h; exact .int i
  | .str x, _, h => by cases h; exact .str x
  | .list ds, _, h => by
    cases h with
    | lst s a => exact .lst (ex_l e s) (dpAll_mono e ds a)
  | .tuple ds, _, h => by
    cases h with
    | tup s a => exact .tup (e _ _ s) (dpAll_mono e ds a)
  | .dict _, _, h => by cases h
theorem dpAll_mono {K : PySem.W.Frag} {H H' : Hp} (e : Ex H H') : ∀ (ds : List PyData) {vs : List V}, DdAll K H vs ds → DdAll K H' vs ds
  | [], _, h => by cases h; exact .nil
  | d :: ds, _, h => by
    cases h with
    | cons h1 h2 => exact .cons (dp_mono e d h1) (dpAll_mono e ds h2)
end
theorem dpAll_len {K : PySem.W.Frag} {H : Hp} : ∀ {vs : List V} {ds : List PyData}, DdAll K H vs ds → vs.length = ds.length
  | _, _, .nil => rfl
  | _, _, .cons _ h => by rw [List.length_cons, List.length_cons, dpAll_len h]
theorem dpAll_get {K : PySem.W.Frag} {H : Hp} : ∀ {vs : List V} {ds : List PyData} {i : Nat} {d : PyData}, DdAll K H vs ds → ds[i]? = some d → ∃ v, vs[i]? = some v ∧ Dd K H v d
  | _, _, _, _, .nil, e => by simp at e
  | _, _, 0, _, .cons h _, e => by simp at e; subst e; exact ⟨_, rfl, h⟩
  | _, _, i + 1, d, .cons _ t, e => by
    obtain ⟨v, h1, h2⟩ := dpAll_get (i := i) (d := d) t (by simpa using e)
    exact ⟨v, by simpa using h1, h2⟩
theorem dpAll_get' {K : PySem.W.Frag} {H : Hp} : ∀ {vs : List V} {ds : List PyData} {i : Nat} {v : V}, DdAll K H vs ds → vs[i]? = some v → ∃ d, ds[i]? = some d ∧ Dd K H v d
  | _, _, _, _, .nil, e => by simp at e
  | _, _, 0, _, .cons h _, e => by simp at e; subst e; exact ⟨_, rfl, h⟩
  | _, _, i + 1, d, .cons _ t, e => by
    obtain ⟨v, h1, h2⟩ := dpAll_get' (i := i) (v := d) t (by simpa using e)
    exact ⟨v, by simpa using h1, h2⟩
theorem dpAll_app {K : PySem.W.Frag} {H : Hp} : ∀ {vs ws : List V} {ds es : List PyData}, DdAll K H vs ds → DdAll K H ws es → DdAll K H (vs ++ ws) (ds ++ es)
  | _, _, _, _, .nil, s => s
  | _, _, _, _, .cons r t, s => .cons r (dpAll_app t s)
theorem dpAll_one {K : PySem.W.Frag} {H : Hp} {v : V} {d : PyData} (h : Dd K H v d) : DdAll K H [v] [d] := .cons h .nil
theorem dpAll_take {K : PySem.W.Frag} {H : Hp} : ∀ {vs : List V} {ds : List PyData} (n : Nat), DdAll K H vs ds → DdAll K H (vs.take n) (ds.take n)
  | _, _, 0, _ => .nil
  | _, _, _ + 1, .nil => .nil
  | _, _, n + 1, .cons r t => .cons r (dpAll_take n t)
theorem dpAll_drop {K : PySem.W.Frag} {H : Hp} : ∀ {vs : List V} {ds : List PyData} (n : Nat), DdAll K H vs ds → DdAll K H (vs.drop n) (ds.drop n)
  | _, _, 0, r => r
  | _, _, _ + 1, .nil => .nil
  | _, _, n + 1, .cons _ t => dpAll_drop n t
theorem dpAll_set {K : PySem.W.Frag} {H : Hp} {v : V} {d : PyData} (r : Dd K H v d) : ∀ {vs : List V} {ds : List PyData} (i : Nat), DdAll K H vs ds → DdAll K H (vs.set i v) (ds.set i d)
  | _, _, _, .nil => .nil
  | _, _, 0, .cons _ t => .cons r t
  | _, _, i + 1, .cons q t => .cons q (dpAll_set r i t)
theorem dpAll_erase {K : PySem.W.Frag} {H : Hp} : ∀ {vs : List V} {ds : List PyData} (i : Nat), DdAll K H vs ds → DdAll K H (vs.eraseIdx i) (ds.eraseIdx i)
  | _, _, _, .nil => .nil
  | _, _, 0, .cons _ t => t
  | _, _, i + 1, .cons q t => .cons q (dpAll_erase i t)
theorem dpAll_rep {K : PySem.W.Frag} {H : Hp} {v : V} {d : PyData} (r : Dd K H v d) : ∀ (n : Nat), DdAll K H (List.replicate n v) (List.replicate n d)
  | 0 => .nil
  | n + 1 => .cons r (dpAll_rep r n)
theorem dpAll_ints {K : PySem.W.Frag} {H : Hp} : ∀ (ns : List Int), DdAll K H (ns.map V.int) (ns.map PyData.int)
  | [] => .nil
  | n :: ns => .cons (.int n) (dpAll_ints ns)
theorem dpAll_ints' {K : PySem.W.Frag} {H : Hp} : ∀ {ns : List Int} {vs : List V}, DdAll K H vs (ns.map PyData.int) → vs = ns.map V.int
  | [], _, h => by cases h; rfl
  | n :: ns, _, h => by
    cases h with
    | cons h1 h2 => cases h1; rw [dpAll_ints' h2]; rfl

/-- the frozen part G and the heap H grow -/
structure Gw (G H G' H' : Hp) : Prop where
  g : Ex G G'
  h : Ex H H'
  s : Ex G' H'
  m : ∀ a o, H a = some o → G a = none → G' a = none
theorem Gw.refl {G H : Hp} (s : Ex G H) : Gw G H G H := ⟨Ex.refl G, Ex.refl H, s, fun _ _ _ h => h⟩
theorem Gw.trans {G H G1 H1 G2 H2 : Hp} (a : Gw G H G1 H1) (b : Gw G1 H1 G2 H2) : Gw G H G2 H2 :=
  ⟨a.g.trans b.g, a.h.trans b.h, b.s, fun x o e n => b.m x o (a.h x o e) (a.m x o e n)⟩
theorem Gw.new {G H : Hp} {p : Addr} {o : HO} (s : Ex G H) (h : H p = none) : Gw G H (upd G p o) (upd H p o) :=
  ⟨Ex.new (s.back h), Ex.new h, s.both, fun a u e n => by rw [upd_ne (ne_of_none e h)]; exact n⟩

/-! ### what stands in a slot -/
/-- nothing that is known; data; a list of one's own; a list of lists of one's own; a dict of one's own with ints and texts as keys; one with tuples of ints as keys; a dict that the caller owns (by reference) is told as one's own too -/
inductive Sl where
  | x
  | d (d : PyData)
  | l (xs : List PyData)
  | ll (xss : List (List PyData))
  | dk (o : Option Addr) (kvs : List (Key × PyData))
  | dt (kvs : List (List Key × PyData))

/-- pairs of a dict -/
def KD {κ : Type} (K : PySem.W.Frag) (G : Hp) : List (κ × V) → List (κ × PyData) → Prop := Paired fun p q => p.1 = q.1 ∧ Dd K G p.2 q.2
theorem KD.mono {κ : Type} {K : PySem.W.Frag} {G G' : Hp} (e : Ex G G') {ps : List (κ × V)} {qs : List (κ × PyData)} (h : KD K G ps qs) : KD K G' ps qs :=
  Paired.mapP h fun _ q r => ⟨r.1, dp_mono e q.2 r.2⟩

/-- rows of one's own at the addresses as -/
def Rows (K : PySem.W.Frag) (G H : Hp) : List Addr → List (List PyData) → Prop
  | [], [] => True
  | a :: as, xs :: xss => G a = none ∧ (∃ vs, H a = some (.lst vs) ∧ DdAll K G vs xs) ∧ Rows K G H as xss
  | _, _ => False
theorem Rows.len {K : PySem.W.Frag} {G H : Hp} : ∀ {as : List Addr} {xss : List (List PyData)}, Rows K G H as xss → as.length = xss.length
  | [], [], _ => rfl
  | _ :: _, _ :: _, h => by rw [List.length_cons, List.length_cons, Rows.len h.2.2]
  | [], _ :: _, h => h.elim
  | _ :: _, [], h => h.elim
theorem Rows.mono {K : PySem.W.Frag} {G H G' H' : Hp} (e : Ex G G') : ∀ {as : List Addr} {xss : List (List PyData)}, (∀ a ∈ as, ∀ o, H a = some o → H' a = some o ∧ (G a = none → G' a = none)) → Rows K G H as xss → Rows K G' H' as xss
  | [], [], _, _ => trivial
  | a :: as, xs :: xss, k, ⟨n, ⟨vs, h1, h2⟩, h3⟩ =>
    have q := k a (List.mem_cons_self) _ h1
    ⟨q.2 n, ⟨vs, q.1, dpAll_mono e xs h2⟩, Rows.mono e (fun b hb => k b (List.mem_cons_of_mem _ hb)) h3⟩
  | [], _ :: _, _, h => h.elim
  | _ :: _, [], _, h => h.elim

/-- v is what the slot says; fp: the addresses that it owns -/
def SlOk (K : PySem.W.Frag) (G H : Hp) (v : V) : Sl → List Addr → Prop
  | .x, fp => fp = []
  | .d d, fp => fp = [] ∧ Dd K G v d
  | .l xs, fp => ∃ a vs, fp = [a] ∧ v = .ref a ∧ G a = none ∧ H a = some (.lst vs) ∧ DdAll K G vs xs
  | .ll xss, fp => ∃ a as, fp = a :: as ∧ v = .ref a ∧ G a = none ∧ H a = some (.lst (as.map V.ref)) ∧ (a :: as).Nodup ∧ Rows K G H as xss
  | .dk o kvs, fp => ∃ a ps, fp = [a] ∧ (v = .ref a ∧ ∀ b, o = some b → b = a) ∧ G a = none ∧ H a = some (.dK ps) ∧ KD K G ps kvs
  | .dt kvs, fp => ∃ a ps, fp = [a] ∧ v = .ref a ∧ G a = none ∧ H a = some (.dT ps) ∧ KD K G ps kvs

theorem SlOk.mono {K : PySem.W.Frag} {G H G' H' : Hp} {v : V} (e : Ex G G') : ∀ {s : Sl} {fp : List Addr}, (∀ a ∈ fp, ∀ o, H a = some o → H' a = some o ∧ (G a = none → G' a = none)) → SlOk K G H v s fp → SlOk K G' H' v s fp
  | .x, _, _, h => h
  | .d d, _, _, h => ⟨h.1, dp_mono e d h.2⟩
  | .l xs, _, k, ⟨a, vs, e1, e2, n, h, r⟩ => by
    subst e1
    have q := k a (by simp) _ h
    exact ⟨a, vs, rfl, e2, q.2 n, q.1, dpAll_mono e xs r⟩
  | .ll xss, _, k, ⟨a, as, e1, e2, n, h, nd, r⟩ => by
    subst e1
    have q := k a (by simp) _ h
    exact ⟨a, as, rfl, e2, q.2 n, q.1, nd, r.mono e fun b hb => k b (List.mem_cons_of_mem _ hb)⟩
  | .dk _ kvs, _, k, ⟨a, ps, e1, e2, n, h, r⟩ => by
    subst e1
    have q := k a (by simp) _ h
    exact ⟨a, ps, rfl, e2, q.2 n, q.1, r.mono e⟩
  | .dt kvs, _, k, ⟨a, ps, e1, e2, n, h, r⟩ => by
    subst e1
    have q := k a (by simp) _ h
    exact ⟨a, ps, rfl, e2, q.2 n, q.1, r.mono e⟩
theorem Rows.free {K : PySem.W.Frag} {G H : Hp} : ∀ {as : List Addr} {xss : List (List PyData)}, Rows K G H as xss → ∀ a ∈ as, G a = none ∧ ∃ o, H a = some o
  | [], _, _, a, ha => by cases ha
  | c :: as, [], r, _, _ => r.elim
  | c :: as, xs :: xss, r, a, ha => by
    rcases List.mem_cons.mp ha with z | z
    · subst z; obtain ⟨n, ⟨vs, h, _⟩, _⟩ := r; exact ⟨n, _, h⟩
    · exact Rows.free r.2.2 a z
theorem SlOk.free {K : PySem.W.Frag} {G H : Hp} {v : V} : ∀ {s : Sl} {fp : List Addr}, SlOk K G H v s fp → ∀ a ∈ fp, G a = none ∧ ∃ o, H a = some o
  | .x, _, h, a, ha => by rw [show _ = [] from h] at ha; cases ha
  | .d _, _, h, a, ha => by rw [h.1] at ha; cases ha
  | .l _, _, ⟨b, vs, e1, _, n, h, _⟩, a, ha => by
    subst e1
    have : a = b := by simpa using ha
    subst this
    exact ⟨n, _, h⟩
  | .ll _, _, ⟨b, as, e1, _, n, h, _, r⟩, a, ha => by
    subst e1
    rcases List.mem_cons.mp ha with q | q
    · subst q; exact ⟨n, _, h⟩
    · exact r.free a q
  | .dk _ _, _, ⟨b, vs, e1, _, n, h, _⟩, a, ha => by
    subst e1
    have : a = b := by simpa using ha
    subst this
    exact ⟨n, _, h⟩
  | .dt _, _, ⟨b, vs, e1, _, n, h, _⟩, a, ha => by
    subst e1
    have : a = b := by simpa using ha
    subst this
    exact ⟨n, _, h⟩

/-- what slot i says -/
def SlotIs (K : PySem.W.Frag) (G H : Hp) (σ : L2.St) (sls : List Sl) (i : Nat) (fp : List Addr) : Prop :=
  match sls[i]? with
  | none => fp = []
  | some .x => fp = []
  | some s => ∃ v, σ[i]? = some (some v) ∧ SlOk K G H v s fp
theorem SlotIs.free {K : PySem.W.Frag} {G H : Hp} {σ : L2.St} {sls : List Sl} {i : Nat} {fp : List Addr} (h : SlotIs K G H σ sls i fp) : ∀ a ∈ fp, G a = none ∧ ∃ o, H a = some o := fun a ha => by
  unfold SlotIs at h
  split at h
  · rw [h] at ha; cases ha
  · rw [h] at ha; cases ha
  · obtain ⟨v, _, ok⟩ := h
    exact ok.free a ha
theorem SlotIs.mono {K : PySem.W.Frag} {G H G' H' : Hp} {σ : L2.St} {sls : List Sl} {i : Nat} {fp : List Addr} (e : Ex G G') (k : ∀ a ∈ fp, ∀ o, H a = some o → H' a = some o ∧ (G a = none → G' a = none)) (h : SlotIs K G H σ sls i fp) : SlotIs K G' H' σ sls i fp := by
  unfold SlotIs at h ⊢
  split at h
  · exact h
  · exact h
  · obtain ⟨v, q, ok⟩ := h
    exact ⟨v, q, ok.mono e k⟩
theorem SlotIs.of {K : PySem.W.Frag} {G H : Hp} {σ : L2.St} {sls : List Sl} {i : Nat} {fp : List Addr} {s : Sl} {v : V} (hs : sls[i]? = some s) (hv : σ[i]? = some (some v)) (ok : SlOk K G H v s fp) : SlotIs K G H σ sls i fp := by
  unfold SlotIs
  rw [hs]
  cases s with
  | x => exact ok
  | _ => exact ⟨v, hv, ok⟩
theorem SlotIs.to {K : PySem.W.Frag} {G H : Hp} {σ : L2.St} {sls : List Sl} {i : Nat} {fp : List Addr} {s : Sl} (h : SlotIs K G H σ sls i fp) (hs : sls[i]? = some s) (hx : s ≠ .x) : ∃ v, σ[i]? = some (some v) ∧ SlOk K G H v s fp := by
  unfold SlotIs at h
  rw [hs] at h
  cases s with
  | x => exact absurd rfl hx
  | _ => exact h
theorem SlotIs.at {K : PySem.W.Frag} {G H : Hp} {σ σ' : L2.St} {sls sls' : List Sl} {i : Nat} {fp : List Addr} (h : SlotIs K G H σ sls i fp) (hs : sls'[i]? = sls[i]?) (hv : σ'[i]? = σ[i]?) : SlotIs K G H σ' sls' i fp := by
  unfold SlotIs at h ⊢
  rw [hs, hv]
  exact h

/-- the slots σ are as told, over the frozen part G of the heap H; G₀, H₀: the entry's -/
structure En (K : PySem.W.Frag) (G₀ H₀ G H : Hp) (σ : L2.St) (sls : List Sl) : Prop where
  gw : Gw G₀ H₀ G H
  len : σ.length = sls.length
  own : ∃ fp : Nat → List Addr, (∀ i, SlotIs K G H σ sls i (fp i)) ∧ (∀ i j a, a ∈ fp i → a ∈ fp j → i = j) ∧ ∀ i a, a ∈ fp i → H₀ a = none

section
variable {K : PySem.W.Frag} {G₀ H₀ G H G' H' : Hp} {σ σ' : L2.St} {sls sls' : List Sl}
theorem En.s (E : En K G₀ H₀ G H σ sls) : Ex G H := E.gw.s
/-- all owned objects as they were -/
theorem En.grow (E : En K G₀ H₀ G H σ sls) (g : Gw G H G' H') : En K G₀ H₀ G' H' σ sls := by
  obtain ⟨fp, h1, h3, h4⟩ := E.own
  exact ⟨E.gw.trans g, E.len, fp, fun i => (h1 i).mono g.g fun a ha o ho => ⟨g.h a o ho, g.m a o ho⟩, h3, h4⟩
theorem En.get (E : En K G₀ H₀ G H σ sls) {i : Nat} {d : PyData} (h : sls[i]? = some (.d d)) : ∃ v, σ[i]? = some (some v) ∧ Dd K G v d := by
  obtain ⟨fp, h1, _⟩ := E.own
  obtain ⟨v, e, ok⟩ := (h1 i).to h (by simp)
  exact ⟨v, e, ok.2⟩
/-- one slot changes: what it owns is new, or was its own -/
theorem En.upd (E : En K G₀ H₀ G H σ sls) {i : Nat} {v : V} {s : Sl} (hi : i < sls.length) (hg : Ex G G') (gw : Gw G₀ H₀ G' H')
    (k : ∀ fi, SlotIs K G H σ sls i fi → (∀ a o, a ∉ fi → H a = some o → H' a = some o) ∧ (∀ a o, a ∉ fi → H a = some o → G a = none → G' a = none) ∧ ∃ fi', SlOk K G' H' v s fi' ∧ ∀ a ∈ fi', a ∈ fi ∨ H a = none) :
    En K G₀ H₀ G' H' (σ.set i (some v)) (sls.set i s) := by
  obtain ⟨fp, h1, h3, h4⟩ := E.own
  obtain ⟨k1, k2, fi', ok, k3⟩ := k (fp i) (h1 i)
  have old : ∀ j a, a ∈ fp j → ∃ o, H a = some o := fun j a ha => ((h1 j).free a ha).2
  refine ⟨gw, by rw [List.length_set, List.length_set, E.len], fun j => if j = i then fi' else fp j, fun j => ?_, fun a b c ha hb => ?_, fun j a ha => ?_⟩
  · by_cases q : j = i
    · subst q
      show SlotIs K G' H' (σ.set j (some v)) (sls.set j s) j (if j = j then fi' else fp j)
      rw [if_pos rfl]
      exact .of (List.getElem?_set_self hi) (List.getElem?_set_self (by rw [E.len]; exact hi)) ok
    · show SlotIs K G' H' (σ.set i (some v)) (sls.set i s) j (if j = i then fi' else fp j)
      rw [if_neg q]
      refine SlotIs.at ((h1 j).mono hg fun a ha o ho => ?_) (List.getElem?_set_ne (Ne.symm q)) (List.getElem?_set_ne (Ne.symm q))
      have na : a ∉ fp i := fun z => q (h3 j i a ha z)
      exact ⟨k1 a o na ho, k2 a o na ho⟩
  · by_cases qa : a = i
    · by_cases qb : b = i
      · rw [qa, qb]
      · have ha' : c ∈ fi' := by simpa [qa] using ha
        have hb' : c ∈ fp b := by simpa [qb] using hb
        rcases k3 c ha' with z | z
        · exact absurd (h3 i b c z hb') (fun e => qb e.symm)
        · obtain ⟨o, ho⟩ := old b c hb'
          rw [z] at ho; cases ho
    · by_cases qb : b = i
      · have hb' : c ∈ fi' := by simpa [qb] using hb
        have ha' : c ∈ fp a := by simpa [qa] using ha
        rcases k3 c hb' with z | z
        · exact absurd (h3 i a c z ha') (fun e => qa e.symm)
        · obtain ⟨o, ho⟩ := old a c ha'
          rw [z] at ho; cases ho
      · exact h3 a b c (by simpa [qa] using ha) (by simpa [qb] using hb)
  · by_cases q : j = i
    · have ha' : a ∈ fi' := by simpa [q] using ha
      rcases k3 a ha' with z | z
      · exact h4 i a z
      · exact E.gw.h.back z
    · exact h4 j a (by simpa [q] using ha)
theorem En.setD (E : En K G₀ H₀ G H σ sls) {i : Nat} {v : V} {d : PyData} (hi : i < sls.length) (h : Dd K G v d) : En K G₀ H₀ G H (σ.set i (some v)) (sls.set i (.d d)) :=
  E.upd hi (Ex.refl G) E.gw fun fi _ => ⟨fun _ _ _ h => h, fun _ _ _ _ h => h, [], ⟨rfl, h⟩, fun a ha => by cases ha⟩
/-- a new list of one's own -/
theorem En.setL (E : En K G₀ H₀ G H σ sls) {i : Nat} {a : Addr} {vs : List V} {xs : List PyData} (hi : i < sls.length) (ha : H a = none) (h : DdAll K G vs xs) : En K G₀ H₀ G (L2.upd H a (.lst vs)) (σ.set i (some (.ref a))) (sls.set i (.l xs)) := by
  have gn : G a = none := E.s.back ha
  refine E.upd hi (Ex.refl G) ⟨E.gw.g, E.gw.h.trans (Ex.new ha), E.s.put gn, E.gw.m⟩ fun fi _ => ⟨fun b o _ hb => by rw [upd_ne (ne_of_none hb ha)]; exact hb, fun _ _ _ _ h => h, [a], ⟨a, vs, rfl, rfl, gn, upd_same, h⟩, fun b hb => .inr (by rw [List.mem_singleton.mp hb]; exact ha)⟩
theorem En.getL (E : En K G₀ H₀ G H σ sls) {i : Nat} {xs : List PyData} (h : sls[i]? = some (.l xs)) : ∃ a vs, σ[i]? = some (some (.ref a)) ∧ G a = none ∧ H₀ a = none ∧ H a = some (.lst vs) ∧ DdAll K G vs xs := by
  obtain ⟨fp, h1, _, h4⟩ := E.own
  obtain ⟨v, e, ok⟩ := (h1 i).to h (by simp)
  obtain ⟨a, vs, e1, e2, n, ho, r⟩ := ok
  subst e2
  exact ⟨a, vs, e, n, h4 i a (by rw [e1]; simp), ho, r⟩
/-- the list in slot i is changed -/
theorem En.putL (E : En K G₀ H₀ G H σ sls) {i : Nat} {xs ys : List PyData} {a : Addr} {ws : List V} (h : sls[i]? = some (.l xs)) (hv : σ[i]? = some (some (.ref a))) (hy : DdAll K G ws ys) : En K G₀ H₀ G (L2.upd H a (.lst ws)) σ (sls.set i (.l ys)) := by
  have hi : i < sls.length := (List.getElem?_eq_some_iff.mp h).1
  obtain ⟨a', vs, e, gn, h0, ha, r⟩ := E.getL h
  rw [hv] at e
  cases e
  have q := E.upd (v := .ref a) (s := .l ys) hi (Ex.refl G) (G' := G) (H' := L2.upd H a (.lst ws)) ⟨E.gw.g, E.gw.h.put h0, E.s.put gn, E.gw.m⟩ fun fi hf => by
    obtain ⟨v, e, a2, vs2, e1, e2, _⟩ := hf.to h (by simp)
    rw [hv] at e
    cases e
    cases e2
    subst e1
    exact ⟨fun b o nb hb => by rw [upd_ne (by simpa using nb)]; exact hb, fun _ _ _ _ h => h, [a], ⟨a, ws, rfl, rfl, gn, upd_same, hy⟩, fun b hb => .inl hb⟩
  have es : σ.set i (some (.ref a)) = σ := by
    apply List.ext_getElem?
    intro j
    by_cases z : i = j
    · subst z
      rw [List.getElem?_set_self (by rw [E.len]; exact hi), hv]
    · rw [List.getElem?_set_ne z]
  rw [es] at q
  exact q
/-- the list in slot i is one's own no longer: data from now on -/
theorem En.frzL (E : En K G₀ H₀ G H σ sls) {i : Nat} {xs : List PyData} (h : sls[i]? = some (.l xs)) : ∃ G', Ex G G' ∧ En K G₀ H₀ G' H σ (sls.set i (.d (.list xs))) := by
  have hi : i < sls.length := (List.getElem?_eq_some_iff.mp h).1
  obtain ⟨a, vs, hv, gn, h0, ha, r⟩ := E.getL h
  have eg : Ex G (L2.upd G a (.lst vs)) := Ex.new gn
  refine ⟨L2.upd G a (.lst vs), eg, ?_⟩
  have q := E.upd (v := .ref a) (s := .d (.list xs)) hi eg (G' := L2.upd G a (.lst vs)) (H' := H) ⟨E.gw.g.trans eg, E.gw.h, fun b o hb => by
      by_cases z : b = a
      · subst z; rw [upd_same] at hb; cases hb; exact ha
      · rw [upd_ne z] at hb; exact E.s b o hb, fun b o hb n => by rw [upd_ne (ne_of_none hb h0)]; exact E.gw.m b o hb n⟩ fun fi hf => by
    obtain ⟨v, e, a2, vs2, e1, e2, _⟩ := hf.to h (by simp)
    rw [hv] at e
    cases e
    cases e2
    subst e1
    exact ⟨fun _ _ _ h => h, fun b o nb hb n => by rw [upd_ne (by simpa using nb)]; exact n, [], ⟨rfl, .lst (SqL.of upd_same) (dpAll_mono eg xs r)⟩, fun b hb => by cases hb⟩
  have es : σ.set i (some (.ref a)) = σ := by
    apply List.ext_getElem?
    intro j
    by_cases z : i = j
    · subst z
      rw [List.getElem?_set_self (by rw [E.len]; exact hi), hv]
    · rw [List.getElem?_set_ne z]
  rw [es] at q
  exact q
/-- a new dict of one's own -/
theorem En.setK (E : En K G₀ H₀ G H σ sls) {i : Nat} {a : Addr} {ps : List (Key × V)} {kvs : List (Key × PyData)} (hi : i < sls.length) (ha : H a = none) (h : KD K G ps kvs) : En K G₀ H₀ G (L2.upd H a (.dK ps)) (σ.set i (some (.ref a))) (sls.set i (.dk none kvs)) := by
  have gn : G a = none := E.s.back ha
  refine E.upd hi (Ex.refl G) ⟨E.gw.g, E.gw.h.trans (Ex.new ha), E.s.put gn, E.gw.m⟩ fun fi _ => ⟨fun b o _ hb => by rw [upd_ne (ne_of_none hb ha)]; exact hb, fun _ _ _ _ h => h, [a], ⟨a, ps, rfl, ⟨rfl, fun b e => by cases e⟩, gn, upd_same, h⟩, fun b hb => .inr (by rw [List.mem_singleton.mp hb]; exact ha)⟩
theorem En.setT (E : En K G₀ H₀ G H σ sls) {i : Nat} {a : Addr} (hi : i < sls.length) (ha : H a = none) : En K G₀ H₀ G (L2.upd H a (.dT [])) (σ.set i (some (.ref a))) (sls.set i (.dt [])) := by
  have gn : G a = none := E.s.back ha
  refine E.upd hi (Ex.refl G) ⟨E.gw.g, E.gw.h.trans (Ex.new ha), E.s.put gn, E.gw.m⟩ fun fi _ => ⟨fun b o _ hb => by rw [upd_ne (ne_of_none hb ha)]; exact hb, fun _ _ _ _ h => h, [a], ⟨a, [], rfl, rfl, gn, upd_same, .nil⟩, fun b hb => .inr (by rw [List.mem_singleton.mp hb]; exact ha)⟩
theorem En.getK (E : En K G₀ H₀ G H σ sls) {i : Nat} {o : Option Addr} {kvs : List (Key × PyData)} (h : sls[i]? = some (.dk o kvs)) : ∃ a ps, σ[i]? = some (some (.ref a)) ∧ (∀ b, o = some b → b = a) ∧ G a = none ∧ H₀ a = none ∧ H a = some (.dK ps) ∧ KD K G ps kvs := by
  obtain ⟨fp, h1, _, h4⟩ := E.own
  obtain ⟨v, e, ok⟩ := (h1 i).to h (by simp)
  obtain ⟨a, ps, e1, ⟨e2, e3⟩, n, ho, r⟩ := ok
  subst e2
  exact ⟨a, ps, e, e3, n, h4 i a (by rw [e1]; simp), ho, r⟩
/-- the dict in slot i is changed; the rest of the heap may grow -/
theorem En.putK (E : En K G₀ H₀ G H σ sls) {i : Nat} {o : Option Addr} {kvs kvs' : List (Key × PyData)} {a : Addr} {ps' : List (Key × V)} (h : sls[i]? = some (.dk o kvs)) (hv : σ[i]? = some (some (.ref a))) (g : Ex G G') (s : Ex G' H') (k1 : ∀ b u, b ≠ a → H b = some u → H' b = some u) (k2 : ∀ b u, b ≠ a → H b = some u → G b = none → G' b = none)
    (n : G' a = none) (ha : H' a = some (.dK ps')) (hy : KD K G' ps' kvs') : En K G₀ H₀ G' H' σ (sls.set i (.dk o kvs')) := by
  have hi : i < sls.length := (List.getElem?_eq_some_iff.mp h).1
  obtain ⟨a', ps, e, eo, gn, h0, ha', r⟩ := E.getK h
  rw [hv] at e
  cases e
  have q := E.upd (v := .ref a) (s := .dk o kvs') hi g (G' := G') (H' := H') ⟨E.gw.g.trans g, fun b u hb => k1 b u (ne_of_none hb h0) (E.gw.h b u hb), s, fun b u hb n => k2 b u (ne_of_none hb h0) (E.gw.h b u hb) (E.gw.m b u hb n)⟩ fun fi hf => by
    obtain ⟨v, e, a2, vs2, e1, ⟨e2, _⟩, _⟩ := hf.to h (by simp)
    rw [hv] at e
    cases e
    cases e2
    subst e1
    exact ⟨fun b u nb hb => k1 b u (by simpa using nb) hb, fun b u nb hb => k2 b u (by simpa using nb) hb, [a], ⟨a, ps', rfl, ⟨rfl, eo⟩, n, ha, hy⟩, fun b hb => .inl hb⟩
  have es : σ.set i (some (.ref a)) = σ := by
    apply List.ext_getElem?
    intro j
    by_cases z : i = j
    · subst z
      rw [List.getElem?_set_self (by rw [E.len]; exact hi), hv]
    · rw [List.getElem?_set_ne z]
  rw [es] at q
  exact q
theorem En.getT (E : En K G₀ H₀ G H σ sls) {i : Nat} {kvs : List (List Key × PyData)} (h : sls[i]? = some (.dt kvs)) : ∃ a ps, σ[i]? = some (some (.ref a)) ∧ G a = none ∧ H₀ a = none ∧ H a = some (.dT ps) ∧ KD K G ps kvs := by
  obtain ⟨fp, h1, _, h4⟩ := E.own
  obtain ⟨v, e, ok⟩ := (h1 i).to h (by simp)
  obtain ⟨a, ps, e1, e2, n, ho, r⟩ := ok
  subst e2
  exact ⟨a, ps, e, n, h4 i a (by rw [e1]; simp), ho, r⟩
theorem En.putT (E : En K G₀ H₀ G H σ sls) {i : Nat} {kvs kvs' : List (List Key × PyData)} {a : Addr} {ps' : List (List Key × V)} (h : sls[i]? = some (.dt kvs)) (hv : σ[i]? = some (some (.ref a))) (hy : KD K G ps' kvs') : En K G₀ H₀ G (L2.upd H a (.dT ps')) σ (sls.set i (.dt kvs')) := by
  have hi : i < sls.length := (List.getElem?_eq_some_iff.mp h).1
  obtain ⟨a', vs, e, gn, h0, ha, r⟩ := E.getT h
  rw [hv] at e
  cases e
  have q := E.upd (v := .ref a) (s := .dt kvs') hi (Ex.refl G) (G' := G) (H' := L2.upd H a (.dT ps')) ⟨E.gw.g, E.gw.h.put h0, E.s.put gn, E.gw.m⟩ fun fi hf => by
    obtain ⟨v, e, a2, vs2, e1, e2, _⟩ := hf.to h (by simp)
    rw [hv] at e
    cases e
    cases e2
    subst e1
    exact ⟨fun b o nb hb => by rw [upd_ne (by simpa using nb)]; exact hb, fun _ _ _ _ h => h, [a], ⟨a, ps', rfl, rfl, gn, upd_same, hy⟩, fun b hb => .inl hb⟩
  have es : σ.set i (some (.ref a)) = σ := by
    apply List.ext_getElem?
    intro j
    by_cases z : i = j
    · subst z
      rw [List.getElem?_set_self (by rw [E.len]; exact hi), hv]
    · rw [List.getElem?_set_ne z]
  rw [es] at q
  exact q
/-- an object beside, at D, that nobody here knows: it stays -/
theorem En.keep (E : En K G₀ H₀ G H σ sls) {D : Addr} {o : HO} (h : H D = none) : En K G₀ (L2.upd H₀ D o) G (L2.upd H D o) σ sls := by
  obtain ⟨fp, h1, h3, h4⟩ := E.own
  have gn : G D = none := E.s.back h
  have hd : ∀ i a, a ∈ fp i → a ≠ D := fun i a ha z => by
    obtain ⟨u, hu⟩ := ((h1 i).free a ha).2
    rw [z, h] at hu; cases hu
  refine ⟨⟨E.gw.g, E.gw.h.both, E.s.put gn, fun a u ha n => ?_⟩, E.len, fp, fun i => (h1 i).mono (Ex.refl G) fun a ha o' ho => ⟨by rw [upd_ne (hd i a ha)]; exact ho, fun n => n⟩, h3, fun i a ha => by rw [upd_ne (hd i a ha)]; exact h4 i a ha⟩
  by_cases z : a = D
  · subst z; exact gn
  · rw [upd_ne z] at ha; exact E.gw.m a u ha n
def del (H : Hp) (D : Addr) : Hp := fun a => if a = D then none else H a
theorem del_same {H : Hp} {D : Addr} : del H D D = none := if_pos rfl
theorem del_ne {H : Hp} {D a : Addr} (h : a ≠ D) : del H D a = H a := if_neg h
theorem upd_del {H : Hp} {D : Addr} {o : HO} (h : H D = some o) : L2.upd (del H D) D o = H := by
  funext a
  by_cases z : a = D
  · subst z; rw [upd_same, h]
  · rw [upd_ne z, del_ne z]
theorem En.unkeep {D : Addr} {o : HO} (E : En K G₀ (L2.upd H₀ D o) G H σ sls) (h0 : H₀ D = none) (g0 : G₀ D = none) : ∃ H1, H1 D = none ∧ H = L2.upd H1 D o ∧ En K G₀ H₀ G H1 σ sls := by
  obtain ⟨fp, h1, h3, h4⟩ := E.own
  have hD : H D = some o := E.gw.h D o upd_same
  have gD : G D = none := E.gw.m D o upd_same g0
  have hd : ∀ i a, a ∈ fp i → a ≠ D := fun i a ha z => by
    have := h4 i a ha
    rw [z, upd_same] at this; cases this
  refine ⟨del H D, del_same, (upd_del hD).symm, ⟨E.gw.g, fun a u ha => ?_, fun a u ha => ?_, fun a u ha n => ?_⟩, E.len, fp, fun i => (h1 i).mono (Ex.refl G) fun a ha o' ho => ⟨by rw [del_ne (hd i a ha)]; exact ho, fun n => n⟩, h3, fun i a ha => ?_⟩
  · rw [del_ne (ne_of_none ha h0)]; exact E.gw.h a u (by rw [upd_ne (ne_of_none ha h0)]; exact ha)
  · rw [del_ne (ne_of_none ha gD)]; exact E.s a u ha
  · exact E.gw.m a u (by rw [upd_ne (ne_of_none ha h0)]; exact ha) n
  · have := h4 i a ha
    rw [upd_ne (hd i a ha)] at this; exact this
/-- forgetting a slot -/
theorem En.forget (E : En K G₀ H₀ G H σ sls) (hl : σ'.length = sls'.length) (h : ∀ i : Nat, sls'[i]? = some Sl.x ∨ sls'[i]? = none ∨ (sls'[i]? = sls[i]? ∧ σ'[i]? = σ[i]?)) : En K G₀ H₀ G H σ' sls' := by
  obtain ⟨fp, h1, h3, h4⟩ := E.own
  classical
  refine ⟨E.gw, hl, fun i => if sls'[i]? = some .x ∨ sls'[i]? = none then [] else fp i, fun i => ?_, fun i j a hi hj => ?_, fun i a hi => ?_⟩
  · by_cases q : sls'[i]? = some .x ∨ sls'[i]? = none
    · show SlotIs K G H σ' sls' i (if sls'[i]? = some .x ∨ sls'[i]? = none then [] else fp i)
      rw [if_pos q]
      unfold SlotIs
      rcases q with q | q <;> rw [q]
    · show SlotIs K G H σ' sls' i (if sls'[i]? = some .x ∨ sls'[i]? = none then [] else fp i)
      rw [if_neg q]
      rcases h i with z | z | z
      · exact absurd (.inl z) q
      · exact absurd (.inr z) q
      · exact (h1 i).at z.1 z.2
  · by_cases qi : sls'[i]? = some .x ∨ sls'[i]? = none
    · simp only [if_pos qi] at hi; cases hi
    · by_cases qj : sls'[j]? = some .x ∨ sls'[j]? = none
      · simp only [if_pos qj] at hj; cases hj
      · simp only [if_neg qi] at hi; simp only [if_neg qj] at hj
        exact h3 i j a hi hj
  · by_cases qi : sls'[i]? = some .x ∨ sls'[i]? = none
    · simp only [if_pos qi] at hi; cases hi
    · simp only [if_neg qi] at hi
      exact h4 i a hi
end
end Ewl

set_option maxRecDepth 100000
set_option maxHeartbeats 2000000
/-! Judgements over data. -/
namespace Ewl
open PySem L2

/-! ### what must hold, over all states that bear the slots and the heap -/
def W (X : Cx) (e : Expr) : TE := fun σ H Q => ∀ pins s, L2.Inv X pins σ H s → wpAny (model X.prog X.w) X.A (eval e X.env) (EP X pins σ Q) X.xe s
def WT (X : Cx) (e : Expr) : TT := fun σ H Q => ∀ pins s, L2.Inv X pins σ H s → wpAny (model X.prog X.w) X.A (isTrue e X.env (eval e X.env)) (TP X pins σ Q) X.xe s
def WA (X : Cx) (es : List Expr) : TA := fun σ H Q => ∀ pos pins s, L2.Inv X pins σ H s → wpAny (model X.prog X.w) X.A (spliced (backTo pos (starEach es X.env))) (AP X pins σ Q) X.xe s
def WS (X : Cx) (st : Stmt) : TS := fun D σ H => ∀ pins s, L2.Inv X pins σ H s → wpAny (model X.prog X.w) X.A (exec st X.env) (SP X pins D) X.xe s
def WB (X : Cx) (st : List Stmt) : TS := fun D σ H => ∀ pins s, L2.Inv X pins σ H s → wpAny (model X.prog X.w) X.A (execs st X.env) (SP X pins D) X.xe s
section
variable {X : Cx} {e : Expr} {es : List Expr} {st : Stmt} {ss : List Stmt}
theorem pe_W : PE X e (W X e) := ⟨fun pins s σ H Q I h => h pins s I⟩
theorem pt_W : PT X e (WT X e) := ⟨fun pins s σ H Q I h => h pins s I⟩
theorem pa_W : PA X es (WA X es) := ⟨fun pos pins s σ H Q I h => h pos pins s I⟩
theorem ps_W : PS X st (WS X st) := ⟨fun pins s σ H D I h => h pins s I⟩
theorem pss_W : PSs X ss (WB X ss) := ⟨fun pins s σ H D I h => h pins s I⟩
theorem W.of {t : TE} {σ : L2.St} {H : Hp} {Q : VK} (h : PE X e t) (q : t σ H Q) : W X e σ H Q := fun pins s I => h.run pins s σ H Q I q
theorem WT.of {t : TT} {σ : L2.St} {H : Hp} {Q : Bool → Hp → Prop} (h : PT X e t) (q : t σ H Q) : WT X e σ H Q := fun pins s I => h.run pins s σ H Q I q
theorem WA.of {t : TA} {σ : L2.St} {H : Hp} {Q : List V → Hp → Prop} (h : PA X es t) (q : t σ H Q) : WA X es σ H Q := fun pos pins s I => h.run pos pins s σ H Q I q
theorem WS.of {t : TS} {σ : L2.St} {H : Hp} {D : Ends} (h : PS X st t) (q : t D σ H) : WS X st D σ H := fun pins s I => h.run pins s σ H D I q
theorem WB.of {t : TS} {σ : L2.St} {H : Hp} {D : Ends} (h : PSs X ss t) (q : t D σ H) : WB X ss D σ H := fun pins s I => h.run pins s σ H D I q
end

/-! ### an expression gives data; a new list of one's own; a test; arguments -/
structure Ev (X : Cx) (e : Expr) (sl sl' : List Sl) (d : PyData) : Prop where
  run : ∀ {G₀ H₀ G H : Hp} {σ : L2.St}, En X.K G₀ H₀ G H σ sl → ∀ Q : VK, (∀ v G' H', En X.K G₀ H₀ G' H' σ sl' → Ex G G' → Dd X.K G' v d → Q v H') → W X e σ H Q
instance {X : Cx} {e : Expr} {sl sl' : List Sl} {d : PyData} : CoeFun (Ev X e sl sl' d) (fun _ => ∀ {G₀ H₀ G H : Hp} {σ : L2.St}, En X.K G₀ H₀ G H σ sl → ∀ Q : VK, (∀ v G' H', En X.K G₀ H₀ G' H' σ sl' → Ex G G' → Dd X.K G' v d → Q v H') → W X e σ H Q) := ⟨fun h => h.run⟩
structure EvL (X : Cx) (e : Expr) (sl sl' : List Sl) (xs : List PyData) : Prop where
  run : ∀ {G₀ H₀ G H : Hp} {σ : L2.St}, En X.K G₀ H₀ G H σ sl → ∀ Q : VK, (∀ a vs G' H', En X.K G₀ H₀ G' H' σ sl' → Ex G G' → H' a = none → DdAll X.K G' vs xs → Q (.ref a) (L2.upd H' a (.lst vs))) → W X e σ H Q
instance {X : Cx} {e : Expr} {sl sl' : List Sl} {xs : List PyData} : CoeFun (EvL X e sl sl' xs) (fun _ => ∀ {G₀ H₀ G H : Hp} {σ : L2.St}, En X.K G₀ H₀ G H σ sl → ∀ Q : VK, (∀ a vs G' H', En X.K G₀ H₀ G' H' σ sl' → Ex G G' → H' a = none → DdAll X.K G' vs xs → Q (.ref a) (L2.upd H' a (.lst vs))) → W X e σ H Q) := ⟨fun h => h.run⟩
structure EvT (X : Cx) (e : Expr) (sl sl' : List Sl) (b : Bool) : Prop where
  run : ∀ {G₀ H₀ G H : Hp} {σ : L2.St}, En X.K G₀ H₀ G H σ sl → ∀ Q : Bool → Hp → Prop, (∀ G' H', En X.K G₀ H₀ G' H' σ sl' → Ex G G' → Q b H') → WT X e σ H Q
instance {X : Cx} {e : Expr} {sl sl' : List Sl} {b : Bool} : CoeFun (EvT X e sl sl' b) (fun _ => ∀ {G₀ H₀ G H : Hp} {σ : L2.St}, En X.K G₀ H₀ G H σ sl → ∀ Q : Bool → Hp → Prop, (∀ G' H', En X.K G₀ H₀ G' H' σ sl' → Ex G G' → Q b H') → WT X e σ H Q) := ⟨fun h => h.run⟩
structure EvA (X : Cx) (es : List Expr) (sl sl' : List Sl) (ds : List PyData) : Prop where
  run : ∀ {G₀ H₀ G H : Hp} {σ : L2.St}, En X.K G₀ H₀ G H σ sl → ∀ Q : List V → Hp → Prop, (∀ vs G' H', En X.K G₀ H₀ G' H' σ sl' → Ex G G' → DdAll X.K G' vs ds → Q vs H') → WA X es σ H Q
instance {X : Cx} {es : List Expr} {sl sl' : List Sl} {ds : List PyData} : CoeFun (EvA X es sl sl' ds) (fun _ => ∀ {G₀ H₀ G H : Hp} {σ : L2.St}, En X.K G₀ H₀ G H σ sl → ∀ Q : List V → Hp → Prop, (∀ vs G' H', En X.K G₀ H₀ G' H' σ sl' → Ex G G' → DdAll X.K G' vs ds → Q vs H') → WA X es σ H Q) := ⟨fun h => h.run⟩

/-- an operation on two data, one, several: the heap grows -/
structure RD (K : PySem.W.Frag) (r : R2) (d e z : PyData) : Prop where
  run : ∀ {G H : Hp} {v w : V}, Ex G H → Dd K G v d → Dd K G w e → ∀ Q : VK, (∀ u G' H', Gw G H G' H' → Dd K G' u z → Q u H') → r v w H Q
instance {K : PySem.W.Frag} {r : R2} {d e z : PyData} : CoeFun (RD K r d e z) (fun _ => ∀ {G H : Hp} {v w : V}, Ex G H → Dd K G v d → Dd K G w e → ∀ Q : VK, (∀ u G' H', Gw G H G' H' → Dd K G' u z → Q u H') → r v w H Q) := ⟨fun h => h.run⟩
structure RL (K : PySem.W.Frag) (r : R2) (d e : PyData) (xs : List PyData) : Prop where
  run : ∀ {G H : Hp} {v w : V}, Ex G H → Dd K G v d → Dd K G w e → ∀ Q : VK, (∀ a vs, H a = none → DdAll K G vs xs → Q (.ref a) (L2.upd H a (.lst vs))) → r v w H Q
instance {K : PySem.W.Frag} {r : R2} {d e : PyData} {xs : List PyData} : CoeFun (RL K r d e xs) (fun _ => ∀ {G H : Hp} {v w : V}, Ex G H → Dd K G v d → Dd K G w e → ∀ Q : VK, (∀ a vs, H a = none → DdAll K G vs xs → Q (.ref a) (L2.upd H a (.lst vs))) → r v w H Q) := ⟨fun h => h.run⟩
structure RU (K : PySem.W.Frag) (r : V → Hp → VK → Prop) (d z : PyData) : Prop where
  run : ∀ {G H : Hp} {v : V}, Ex G H → Dd K G v d → ∀ Q : VK, (∀ u G' H', Gw G H G' H' → Dd K G' u z → Q u H') → r v H Q
instance {K : PySem.W.Frag} {r : V → Hp → VK → Prop} {d z : PyData} : CoeFun (RU K r d z) (fun _ => ∀ {G H : Hp} {v : V}, Ex G H → Dd K G v d → ∀ Q : VK, (∀ u G' H', Gw G H G' H' → Dd K G' u z → Q u H') → r v H Q) := ⟨fun h => h.run⟩
structure RC (K : PySem.W.Frag) (r : List V → Hp → VK → Prop) (ds : List PyData) (z : PyData) : Prop where
  run : ∀ {G H : Hp} {vs : List V}, Ex G H → DdAll K G vs ds → ∀ Q : VK, (∀ u G' H', Gw G H G' H' → Dd K G' u z → Q u H') → r vs H Q
instance {K : PySem.W.Frag} {r : List V → Hp → VK → Prop} {ds : List PyData} {z : PyData} : CoeFun (RC K r ds z) (fun _ => ∀ {G H : Hp} {vs : List V}, Ex G H → DdAll K G vs ds → ∀ Q : VK, (∀ u G' H', Gw G H G' H' → Dd K G' u z → Q u H') → r vs H Q) := ⟨fun h => h.run⟩
structure RCL (K : PySem.W.Frag) (r : List V → Hp → VK → Prop) (ds : List PyData) (xs : List PyData) : Prop where
  run : ∀ {G H : Hp} {vs : List V}, Ex G H → DdAll K G vs ds → ∀ Q : VK, (∀ a ws, H a = none → DdAll K G ws xs → Q (.ref a) (L2.upd H a (.lst ws))) → r vs H Q
instance {K : PySem.W.Frag} {r : List V → Hp → VK → Prop} {ds : List PyData} {xs : List PyData} : CoeFun (RCL K r ds xs) (fun _ => ∀ {G H : Hp} {vs : List V}, Ex G H → DdAll K G vs ds → ∀ Q : VK, (∀ a ws, H a = none → DdAll K G ws xs → Q (.ref a) (L2.upd H a (.lst ws))) → r vs H Q) := ⟨fun h => h.run⟩

section
variable {X : Cx} {e a b : Expr} {es : List Expr} {s0 s1 s2 s3 : List Sl} {d d1 d2 z : PyData} {pos : Pos}

theorem EvL.ev {xs : List PyData} (h : EvL X e s0 s1 xs) : Ev X e s0 s1 (.list xs) := .mk fun E Q q =>
  h E Q fun a vs G' H' E' g ha hv => q (.ref a) (L2.upd G' a (.lst vs)) _ (E'.grow (.new E'.s ha)) (g.trans (Ex.new (E'.s.back ha)))
    (.lst (SqL.of upd_same) (dpAll_mono (Ex.new (E'.s.back ha)) xs hv))
theorem Ev.to (h : Ev X e s0 s1 d) (q : d = d1) : Ev X e s0 s1 d1 := q ▸ h
theorem EvT.to {b c : Bool} (h : EvT X e s0 s1 b) (q : b = c) : EvT X e s0 s1 c := q ▸ h
theorem EvL.to {xs ys : List PyData} (h : EvL X e s0 s1 xs) (q : xs = ys) : EvL X e s0 s1 ys := q ▸ h

theorem ev_var {i : Nat} {x : Str} (h : s0[i]? = some (.d d)) (hN : X.N[i]? = some x) (hv : Vis X.env.scope x := by first | exact Or.inl rfl | exact Or.inr (Or.inl rfl) | exact Or.inr (Or.inr rfl))
    (hd : (x == ("__debug__" : Str)) = false := by decide) (hcd : (x == ("__classdict__" : Str)) = false := by decide) : Ev X (.Name x pos) s0 s0 d := .mk fun {G₀ H₀ G H σ} E Q q => by
  obtain ⟨v, e, r⟩ := E.get h
  exact W.of (pe_var hN hv hd hcd) ⟨v, e, q v G H E (Ex.refl G) r⟩
theorem ev_int {i : Int} {j : Nat} : Ev X (.Constant (.int i) j pos) s0 s0 (.int i) := .mk fun {G₀ H₀ G H σ} E Q q => W.of pe_int (q _ G H E (Ex.refl G) (.int i))
theorem ev_bl {i : Bool} {j : Nat} : Ev X (.Constant (.bool i) j pos) s0 s0 (.bool i) := .mk fun {G₀ H₀ G H σ} E Q q => W.of pe_bl (q _ G H E (Ex.refl G) (.bl i))
theorem ev_non {j : Nat} : Ev X (.Constant .none j pos) s0 s0 .none := .mk fun {G₀ H₀ G H σ} E Q q => W.of pe_non (q _ G H E (Ex.refl G) .non)
theorem ev_str {i : Str} {j : Nat} : Ev X (.Constant (.str i) j pos) s0 s0 (.str i) := .mk fun {G₀ H₀ G H σ} E Q q => W.of pe_str (q _ G H E (Ex.refl G) (.str i))
/-- a module's number -/
theorem ev_gint {x : Str} {i : Int} {t : Tok} (hm : X.mg x = some (.int i t)) (hg : Gl X x := by rfl) (hd : (x == ("__debug__" : Str)) = false := by decide) : Ev X (.Name x pos) s0 s0 (.int i) := .mk fun {G₀ H₀ G H σ} E Q q =>
  W.of (pe_glob hg hm (v := .int i) ⟨t, rfl⟩ hd) (q _ G H E (Ex.refl G) (.int i))

theorem ev_bin {op : Operator} {r : R2} (ho : OpR X (binaryOp op) r) (ha : Ev X a s0 s1 d1) (hb : Ev X b s1 s2 d2) (hr : RD X.K r d1 d2 z) : Ev X (.BinOp a op b pos) s0 s2 z := .mk fun E Q q =>
  W.of (pe_op ho pe_W pe_W) (ha E _ fun v G1 H1 E1 g1 r1 => hb E1 _ fun w G2 H2 E2 g2 r2 => hr E2.s (dp_mono g2 d1 r1) r2 Q fun u G3 H3 g3 r3 => q u G3 H3 (E2.grow g3) ((g1.trans g2).trans g3.g) r3)
theorem ev_binL {op : Operator} {r : R2} {xs : List PyData} (ho : OpR X (binaryOp op) r) (ha : Ev X a s0 s1 d1) (hb : Ev X b s1 s2 d2) (hr : RL X.K r d1 d2 xs) : EvL X (.BinOp a op b pos) s0 s2 xs := .mk fun E Q q =>
  W.of (pe_op ho pe_W pe_W) (ha E _ fun v G1 H1 E1 g1 r1 => hb E1 _ fun w G2 H2 E2 g2 r2 => hr E2.s (dp_mono g2 d1 r1) r2 Q fun a vs h3 r3 => q a vs G2 H2 E2 (g1.trans g2) h3 r3)
theorem ev_un {op : UnaryOp} {r : V → Hp → VK → Prop} (ho : UnR X (unaryOp op) r) (ha : Ev X a s0 s1 d1) (hr : RU X.K r d1 z) : Ev X (.UnaryOp op a pos) s0 s1 z := .mk fun E Q q =>
  W.of (pe_un ho pe_W) (ha E _ fun v G1 H1 E1 g1 r1 => hr E1.s r1 Q fun u G3 H3 g3 r3 => q u G3 H3 (E1.grow g3) (g1.trans g3.g) r3)
theorem ev_cmp {op : CmpOp} {r : R2} (ho : OpR X (compareOp op) r) (ha : Ev X a s0 s1 d1) (hb : Ev X b s1 s2 d2) (hr : RD X.K r d1 d2 z) (hm : behindInMarks op b = false := by first | exact nomark _ | rfl) : Ev X (.Compare a [op] [b] pos) s0 s2 z := .mk fun E Q q =>
  W.of (pe_cmpR ho pe_W pe_W hm) (ha E _ fun v G1 H1 E1 g1 r1 => hb E1 _ fun w G2 H2 E2 g2 r2 => hr E2.s (dp_mono g2 d1 r1) r2 Q fun u G3 H3 g3 r3 => q u G3 H3 (E2.grow g3) ((g1.trans g2).trans g3.g) r3)
theorem dp_bl {K : PySem.W.Frag} {G : Hp} {v : V} {b : Bool} (h : Dd K G v (.bool b)) : v = .bl b := by cases h; rfl
theorem dp_int {K : PySem.W.Frag} {G : Hp} {v : V} {i : Int} (h : Dd K G v (.int i)) : v = .int i := by cases h; rfl
theorem dp_str {K : PySem.W.Frag} {G : Hp} {v : V} {i : Str} (h : Dd K G v (.str i)) : v = .str i := by cases h; rfl
theorem dp_non {K : PySem.W.Frag} {G : Hp} {v : V} (h : Dd K G v .none) : v = .non := by cases h; rfl
theorem et_cmp {op : CmpOp} {r : R2} {c : Bool} (ho : OpR X (compareOp op) r) (ha : Ev X a s0 s1 d1) (hb : Ev X b s1 s2 d2) (hr : RD X.K r d1 d2 (.bool c)) (hm : behindInMarks op b = false := by first | exact nomark _ | rfl) : EvT X (.Compare a [op] [b] pos) s0 s2 c := .mk fun E Q q =>
  WT.of (pt_cmpR ho pe_W pe_W hm) (ha E _ fun v G1 H1 E1 g1 r1 => hb E1 _ fun w G2 H2 E2 g2 r2 => hr E2.s (dp_mono g2 d1 r1) r2 _ fun u G3 H3 g3 r3 => ⟨c, dp_bl r3, q G3 H3 (E2.grow g3) ((g1.trans g2).trans g3.g)⟩)
/-- a < b < c, the third part told where it is asked -/
theorem ev_chain {op op' : CmpOp} {r r' : R2} {c : Expr} {d3 : PyData} {k1 k2 : Bool} (ho : OpR X (compareOp op) r) (ho' : OpR X (compareOp op') r') (ha : Ev X a s0 s1 d1) (hb : Ev X b s1 s2 d2) (h1 : RD X.K r d1 d2 (.bool k1)) (hc : k1 = true → Ev X c s2 s2 d3) (h2 : k1 = true → RD X.K r' d2 d3 (.bool k2))
    (hm : lastMarks [op, op'] [b, c] = false := by with_unfolding_all rfl) : Ev X (.Compare a [op, op'] [b, c] pos) s0 s2 (.bool (k1 && k2)) := .mk fun E Q q =>
  W.of (pe_chain ho ho' pe_W pe_W pe_W hm) (ha E _ fun v G1 H1 E1 g1 r1 => hb E1 _ fun w G2 H2 E2 g2 r2 => h1 E2.s (dp_mono g2 d1 r1) r2 _ fun u G3 H3 g3 r3 => ⟨k1, dp_bl r3, by
    cases k1 with
    | true =>
      show W X c _ H3 _
      exact hc rfl (E2.grow g3) _ fun v' G4 H4 E4 g4 r4 => h2 rfl E4.s (dp_mono (g3.g.trans g4) d2 r2) r4 Q fun u5 G5 H5 g5 r5 => q u5 G5 H5 (E4.grow g5) ((((g1.trans g2).trans g3.g).trans g4).trans g5.g) r5
    | false => exact q _ G3 H3 (E2.grow g3) ((g1.trans g2).trans g3.g) (.bl false)⟩)
theorem et_chain {op op' : CmpOp} {r r' : R2} {c : Expr} {d3 : PyData} {k1 k2 : Bool} (ho : OpR X (compareOp op) r) (ho' : OpR X (compareOp op') r') (ha : Ev X a s0 s1 d1) (hb : Ev X b s1 s2 d2) (h1 : RD X.K r d1 d2 (.bool k1)) (hc : k1 = true → Ev X c s2 s2 d3) (h2 : k1 = true → RD X.K r' d2 d3 (.bool k2))
    (hm : lastMarks [op, op'] [b, c] = false := by with_unfolding_all rfl) : EvT X (.Compare a [op, op'] [b, c] pos) s0 s2 (k1 && k2) := .mk fun E Q q =>
  WT.of (pt_chain ho ho' pe_W pe_W pe_W hm) (ha E _ fun v G1 H1 E1 g1 r1 => hb E1 _ fun w G2 H2 E2 g2 r2 => h1 E2.s (dp_mono g2 d1 r1) r2 _ fun u G3 H3 g3 r3 => ⟨k1, dp_bl r3, by
    cases k1 with
    | true =>
      show W X c _ H3 _
      exact hc rfl (E2.grow g3) _ fun v' G4 H4 E4 g4 r4 => h2 rfl E4.s (dp_mono (g3.g.trans g4) d2 r2) r4 _ fun u5 G5 H5 g5 r5 => ⟨k2, dp_bl r5, q G5 H5 (E4.grow g5) ((((g1.trans g2).trans g3.g).trans g4).trans g5.g)⟩
    | false => exact ⟨false, rfl, q G3 H3 (E2.grow g3) ((g1.trans g2).trans g3.g)⟩⟩)

/-! ### tests -/
theorem et_val {c : Bool} (h : Ev X a s0 s1 (.bool c)) (he : ∀ whole, isTrue a X.env whole = (do let v ← whole; standAt a.pos; holding [v] (truthy v)) := by intro _; rfl) : EvT X a s0 s1 c := .mk fun E Q q =>
  WT.of (pt_val pe_W he) (h E _ fun v G' H' E' g r => ⟨c, dp_bl r, q G' H' E' g⟩)
def WP (X : Cx) (e : Expr) : TT := fun σ H Q => ∀ whole pins s, L2.Inv X pins σ H s → wpAny (model X.prog X.w) X.A (isTrue e X.env whole) (TP X pins σ Q) X.xe s
theorem pw_W : PW X e (WP X e) := ⟨fun wh pins s σ H Q I h => h wh pins s I⟩
/-- and, or, as a test -/
structure EvP (X : Cx) (e : Expr) (sl sl' : List Sl) (b : Bool) : Prop where
  run : ∀ {G₀ H₀ G H : Hp} {σ : L2.St}, En X.K G₀ H₀ G H σ sl → ∀ Q : Bool → Hp → Prop, (∀ G' H', En X.K G₀ H₀ G' H' σ sl' → Ex G G' → Q b H') → WP X e σ H Q
instance {X : Cx} {e : Expr} {sl sl' : List Sl} {b : Bool} : CoeFun (EvP X e sl sl' b) (fun _ => ∀ {G₀ H₀ G H : Hp} {σ : L2.St}, En X.K G₀ H₀ G H σ sl → ∀ Q : Bool → Hp → Prop, (∀ G' H', En X.K G₀ H₀ G' H' σ sl' → Ex G G' → Q b H') → WP X e σ H Q) := ⟨fun h => h.run⟩
theorem WP.of {t : TT} {σ : L2.St} {H : Hp} {Q : Bool → Hp → Prop} (h : PW X e t) (q : t σ H Q) : WP X e σ H Q := fun wh pins s I => h.run wh pins s σ H Q I q
theorem EvP.et {c : Bool} (h : EvP X e s0 s1 c) : EvT X e s0 s1 c := .mk fun E Q q => WT.of pw_W.pt (h E Q q)
theorem ep_and1 {c : Bool} (h : EvT X a s0 s1 c) : EvP X (.BoolOp .And [a] pos) s0 s1 c := .mk fun E Q q => WP.of (pw_and1 pt_W) (h E Q q)
theorem ep_or1 {c : Bool} (h : EvT X a s0 s1 c) : EvP X (.BoolOp .Or [a] pos) s0 s1 c := .mk fun E Q q => WP.of (pw_or1 pt_W) (h E Q q)
theorem ep_and {c k : Bool} {rest : List Expr} (h : EvT X a s0 s1 c) (h2 : c = true → EvP X (.BoolOp .And (b :: rest) pos) s1 s1 k) : EvP X (.BoolOp .And (a :: b :: rest) pos) s0 s1 (c && k) := .mk fun E Q q =>
  WP.of (pw_and pt_W pw_W) (h E _ fun G' H' E' g => by
    cases c with
    | true => exact h2 rfl E' Q fun G2 H2 E2 g2 => q G2 H2 E2 (g.trans g2)
    | false => exact q G' H' E' g)
theorem ep_or {c k : Bool} {rest : List Expr} (h : EvT X a s0 s1 c) (h2 : c = false → EvP X (.BoolOp .Or (b :: rest) pos) s1 s1 k) : EvP X (.BoolOp .Or (a :: b :: rest) pos) s0 s1 (c || k) := .mk fun E Q q =>
  WP.of (pw_or pt_W pw_W) (h E _ fun G' H' E' g => by
    cases c with
    | false => exact h2 rfl E' Q fun G2 H2 E2 g2 => q G2 H2 E2 (g.trans g2)
    | true => exact q G' H' E' g)
theorem et_not {c : Bool} (h : EvT X a s0 s1 c) : EvT X (.UnaryOp .Not a pos) s0 s1 (!c) := .mk fun E Q q => WT.of (pt_not pt_W) (h E _ fun G' H' E' g => q G' H' E' g)
theorem ev_not {c : Bool} (h : Ev X a s0 s1 (.bool c)) : Ev X (.UnaryOp .Not a pos) s0 s1 (.bool (!c)) := .mk fun E Q q => W.of (pe_not pe_W) (h E _ fun v G' H' E' g r => ⟨c, dp_bl r, q _ G' H' E' g (.bl _)⟩)
theorem ev_one {op : BoolOp} (h : Ev X a s0 s1 d) : Ev X (.BoolOp op [a] pos) s0 s1 d := .mk fun E Q q => W.of (pe_one pe_W) (h E Q q)
theorem ev_and {c k : Bool} {rest : List Expr} (h : Ev X a s0 s1 (.bool c)) (h2 : c = true → Ev X (.BoolOp .And (b :: rest) pos) s1 s1 (.bool k)) : Ev X (.BoolOp .And (a :: b :: rest) pos) s0 s1 (.bool (c && k)) := .mk fun E Q q =>
  W.of (pe_and pe_W pe_W) (h E _ fun v G' H' E' g r => ⟨c, dp_bl r, by
    cases c with
    | true => exact h2 rfl E' Q fun u G2 H2 E2 g2 r2 => q u G2 H2 E2 (g.trans g2) r2
    | false => exact q _ G' H' E' g (.bl false)⟩)
theorem ev_or {c k : Bool} {rest : List Expr} (h : Ev X a s0 s1 (.bool c)) (h2 : c = false → Ev X (.BoolOp .Or (b :: rest) pos) s1 s1 (.bool k)) : Ev X (.BoolOp .Or (a :: b :: rest) pos) s0 s1 (.bool (c || k)) := .mk fun E Q q =>
  W.of (pe_or pe_W pe_W) (h E _ fun v G' H' E' g r => ⟨c, dp_bl r, by
    cases c with
    | false => exact h2 rfl E' Q fun u G2 H2 E2 g2 r2 => q u G2 H2 E2 (g.trans g2) r2
    | true => exact q _ G' H' E' g (.bl true)⟩)
theorem ev_ite {c : Expr} {k : Bool} (h : EvT X c s0 s1 k) (h1 : k = true → Ev X a s1 s2 d) (h2 : k = false → Ev X b s1 s2 d) : Ev X (.IfExp c a b pos) s0 s2 d := .mk fun E Q q =>
  W.of (pe_ifExp pt_W pe_W pe_W) (h E _ fun G' H' E' g => by
    cases k with
    | true => exact h1 rfl E' Q fun u G2 H2 E2 g2 r2 => q u G2 H2 E2 (g.trans g2) r2
    | false => exact h2 rfl E' Q fun u G2 H2 E2 g2 r2 => q u G2 H2 E2 (g.trans g2) r2)

/-! ### arguments, displays, calls -/
theorem ea_nil : EvA X [] s0 s0 [] := .mk fun {G₀ H₀ G H σ} E Q q => WA.of pa_nil (q [] G H E (Ex.refl G) .nil)
theorem ea_cons {ds : List PyData} (h : Ev X e s0 s1 d) (hr : EvA X es s1 s2 ds) (hs : starEach (e :: es) X.env = (false, eval e X.env) :: starEach es X.env := by rfl) : EvA X (e :: es) s0 s2 (d :: ds) := .mk fun E Q q =>
  WA.of (pa_cons pe_W pa_W hs) (h E _ fun v G' H' E' g r => hr E' _ fun vs G2 H2 E2 g2 r2 => q _ G2 H2 E2 (g.trans g2) (.cons (dp_mono g2 d r) r2))
theorem ev_tup {ds : List PyData} {x1 : Nat} (h : EvA X es s0 s1 ds) (hl : ds.length ≤ 1000 := by first | decide | simp) : Ev X (.Tuple es x1 pos) s0 s1 (.tuple ds) := .mk fun E Q q =>
  W.of (pe_tup pa_W) (h E _ fun vs G' H' E' g r => ⟨Nat.le_trans (by rw [dpAll_len r]; exact hl) (by decide), fun p hp =>
    q _ (L2.upd G' p (.tup vs)) _ (E'.grow (.new E'.s hp)) (g.trans (Ex.new (E'.s.back hp))) (.tup upd_same (dpAll_mono (Ex.new (E'.s.back hp)) ds r))⟩)
theorem el_lst {ds : List PyData} (h : EvA X es s0 s1 ds) (hl : ds.length ≤ 1000 := by first | decide | simp) : EvL X (.List es pos) s0 s1 ds := .mk fun E Q q =>
  W.of (pe_lst pa_W) (h E _ fun vs G' H' E' g r => ⟨Nat.le_trans (by rw [dpAll_len r]; exact hl) (by decide), fun p hp => q p vs G' H' E' g hp r⟩)
theorem ev_callB {x id : _} {r : List V → Hp → VK → Prop} {ds : List PyData} {p : Pos} (hc : CallR X (.builtin id) r) (ha : EvA X (e :: es) s0 s1 ds) (hr : RC X.K r ds z) (hm : X.mg x = none) (hg : Gl X x := by rfl) (hv : bootBuiltins x = some (.builtin id) := by decide +kernel) (hn : x ≠ "__name__" := by decide) (hdb : (x == ("__debug__" : Str)) = false := by decide)
    (he : starEach (e :: es) X.env = (false, eval e X.env) :: starEach es X.env := by rfl) (hpl : (backTo pos (starEach es X.env)).any (·.1) = false := by rfl) : Ev X (.Call (.Name x p) (e :: es) [] pos) s0 s1 z := .mk fun E Q q =>
  W.of (pe_callB hc hg hm hv pa_W hn hdb he hpl) (ha E _ fun vs G1 H1 E1 g1 r1 => hr E1.s r1 Q fun u G3 H3 g3 r3 => q u G3 H3 (E1.grow g3) (g1.trans g3.g) r3)
theorem el_callB {x id : _} {r : List V → Hp → VK → Prop} {ds xs : List PyData} {p : Pos} (hc : CallR X (.builtin id) r) (ha : EvA X (e :: es) s0 s1 ds) (hr : RCL X.K r ds xs) (hm : X.mg x = none) (hg : Gl X x := by rfl) (hv : bootBuiltins x = some (.builtin id) := by decide +kernel) (hn : x ≠ "__name__" := by decide) (hdb : (x == ("__debug__" : Str)) = false := by decide)
    (he : starEach (e :: es) X.env = (false, eval e X.env) :: starEach es X.env := by rfl) (hpl : (backTo pos (starEach es X.env)).any (·.1) = false := by rfl) : EvL X (.Call (.Name x p) (e :: es) [] pos) s0 s1 xs := .mk fun E Q q =>
  W.of (pe_callB hc hg hm hv pa_W hn hdb he hpl) (ha E _ fun vs G1 H1 E1 g1 r1 => hr E1.s r1 Q fun a ws h3 r3 => q a ws G1 H1 E1 g1 h3 r3)
theorem ev_callTy {x T : _} {r : List V → Hp → VK → Prop} {ds : List PyData} {p : Pos} (hc : CallR X (.type T) r) (ha : EvA X (e :: es) s0 s1 ds) (hr : RC X.K r ds z) (hm : X.mg x = none) (hg : Gl X x := by rfl) (hv : bootBuiltins x = some (.type T) := by decide +kernel) (hn : x ≠ "__name__" := by decide) (hdb : (x == ("__debug__" : Str)) = false := by decide)
    (he : starEach (e :: es) X.env = (false, eval e X.env) :: starEach es X.env := by rfl) (hpl : (backTo pos (starEach es X.env)).any (·.1) = false := by rfl) : Ev X (.Call (.Name x p) (e :: es) [] pos) s0 s1 z := .mk fun E Q q =>
  W.of (pe_callTy hc hg hm hv pa_W hn hdb he hpl) (ha E _ fun vs G1 H1 E1 g1 r1 => hr E1.s r1 Q fun u G3 H3 g3 r3 => q u G3 H3 (E1.grow g3) (g1.trans g3.g) r3)
theorem el_callTy {x T : _} {r : List V → Hp → VK → Prop} {ds xs : List PyData} {p : Pos} (hc : CallR X (.type T) r) (ha : EvA X (e :: es) s0 s1 ds) (hr : RCL X.K r ds xs) (hm : X.mg x = none) (hg : Gl X x := by rfl) (hv : bootBuiltins x = some (.type T) := by decide +kernel) (hn : x ≠ "__name__" := by decide) (hdb : (x == ("__debug__" : Str)) = false := by decide)
    (he : starEach (e :: es) X.env = (false, eval e X.env) :: starEach es X.env := by rfl) (hpl : (backTo pos (starEach es X.env)).any (·.1) = false := by rfl) : EvL X (.Call (.Name x p) (e :: es) [] pos) s0 s1 xs := .mk fun E Q q =>
  W.of (pe_callTy hc hg hm hv pa_W hn hdb he hpl) (ha E _ fun vs G1 H1 E1 g1 r1 => hr E1.s r1 Q fun a ws h3 r3 => q a ws G1 H1 E1 g1 h3 r3)
/-- math.gcd and its like, imported -/
theorem ev_callF {x id : _} {r : List V → Hp → VK → Prop} {ds : List PyData} {p : Pos} (hc : CallR X (.builtin id) r) (ha : EvA X (e :: es) s0 s1 ds) (hr : RC X.K r ds z) (hm : X.mg x = some (.builtin id)) (hg : Gl X x := by rfl) (hdb : (x == ("__debug__" : Str)) = false := by decide)
    (he : starEach (e :: es) X.env = (false, eval e X.env) :: starEach es X.env := by rfl) (hpl : (backTo pos (starEach es X.env)).any (·.1) = false := by rfl) : Ev X (.Call (.Name x p) (e :: es) [] pos) s0 s1 z := .mk fun E Q q =>
  W.of (pe_callBfun hc hg hm pa_W hdb he hpl) (ha E _ fun vs G1 H1 E1 g1 r1 => hr E1.s r1 Q fun u G3 H3 g3 r3 => q u G3 H3 (E1.grow g3) (g1.trans g3.g) r3)
/-- a[i] -/
theorem ev_ix {r : R2} (hr : IxR X r) (ha : Ev X a s0 s1 d1) (hb : Ev X b s1 s2 d2) (h : RD X.K r d1 d2 z) (hs : PlainIx b := by intro _ _; rfl) : Ev X (.Subscript a b pos) s0 s2 z := .mk fun E Q q =>
  W.of (pe_ix hr pe_W pe_W hs) (ha E _ fun v G1 H1 E1 g1 r1 => hb E1 _ fun w G2 H2 E2 g2 r2 => h E2.s (dp_mono g2 d1 r1) r2 Q fun u G3 H3 g3 r3 => q u G3 H3 (E2.grow g3) ((g1.trans g2).trans g3.g) r3)
end
end Ewl

set_option maxRecDepth 100000
set_option maxHeartbeats 2000000
/-! Statements over data; what a def promises. -/
namespace Ewl
open PySem L2

/-- a block's end: it goes on with these slots, or hands back data -/
inductive Res where
  | nx (sl : List Sl)
  | ret (sl : List Sl) (d : PyData)
def ResOk (X : Cx) (G₀ H₀ G : Hp) (D : Ends) : Res → Prop
  | .nx sl => ∀ σ G' H', En X.K G₀ H₀ G' H' σ sl → Ex G G' → D.nx σ H'
  | .ret sl d => ∀ v σ G' H', En X.K G₀ H₀ G' H' σ sl → Ex G G' → Dd X.K G' v d → D.rt v H'
theorem ResOk.back {X : Cx} {G₀ H₀ G G1 : Hp} {D : Ends} (g : Ex G G1) : ∀ {r : Res}, ResOk X G₀ H₀ G D r → ResOk X G₀ H₀ G1 D r
  | .nx _, h => fun σ G' H' E e => h σ G' H' E (g.trans e)
  | .ret _ _, h => fun v σ G' H' E e r => h v σ G' H' E (g.trans e) r
/-- a statement, a block -/
structure St1 (X : Cx) (st : Stmt) (sl : List Sl) (r : Res) : Prop where
  run : ∀ {G₀ H₀ G H : Hp} {σ : L2.St}, En X.K G₀ H₀ G H σ sl → ∀ D : Ends, ResOk X G₀ H₀ G D r → WS X st D σ H
instance {X : Cx} {st : Stmt} {sl : List Sl} {r : Res} : CoeFun (St1 X st sl r) (fun _ => ∀ {G₀ H₀ G H : Hp} {σ : L2.St}, En X.K G₀ H₀ G H σ sl → ∀ D : Ends, ResOk X G₀ H₀ G D r → WS X st D σ H) := ⟨fun h => h.run⟩
structure Sv (X : Cx) (ss : List Stmt) (sl : List Sl) (r : Res) : Prop where
  run : ∀ {G₀ H₀ G H : Hp} {σ : L2.St}, En X.K G₀ H₀ G H σ sl → ∀ D : Ends, ResOk X G₀ H₀ G D r → WB X ss D σ H
instance {X : Cx} {ss : List Stmt} {sl : List Sl} {r : Res} : CoeFun (Sv X ss sl r) (fun _ => ∀ {G₀ H₀ G H : Hp} {σ : L2.St}, En X.K G₀ H₀ G H σ sl → ∀ D : Ends, ResOk X G₀ H₀ G D r → WB X ss D σ H) := ⟨fun h => h.run⟩

section
variable {X : Cx} {st : Stmt} {ss : List Stmt} {e c : Expr} {es : List Expr} {s0 s1 s2 s3 : List Sl} {d d1 d2 z : PyData} {pos : Pos} {r : Res}
theorem sv_nil : Sv X [] s0 (.nx s0) := .mk fun {G₀ H₀ G H σ} E D h => WB.of pss_nil (h σ G H E (Ex.refl G))
theorem sv_nx (h : St1 X st s0 (.nx s1)) (h2 : Sv X ss s1 r) : Sv X (st :: ss) s0 r := .mk fun {G₀ H₀ G H σ} E D k =>
  WB.of (pss_cons ps_W pss_W) (h E { D with nx := WB X ss D } fun σ' G' H' E' g => h2 E' D (k.back g))
theorem sv_ret (h : St1 X st s0 (.ret s1 d)) : Sv X (st :: ss) s0 (.ret s1 d) := .mk fun {G₀ H₀ G H σ} E D k =>
  WB.of (pss_cons ps_W pss_W) (h E { D with nx := WB X ss D } k)
theorem sv_one (h : St1 X st s0 r) : Sv X [st] s0 r := .mk fun E D k => WB.of (pss_one ps_W) (h E D k)
/-- slots that one forgets: told as .x, or frozen -/
theorem sv_frz {i : Nat} {xs : List PyData} (hi : s0[i]? = some (.l xs)) (h : Sv X ss (s0.set i (.d (.list xs))) r) : Sv X ss s0 r := .mk fun E D k => by
  obtain ⟨G', g, E'⟩ := E.frzL hi
  exact h E' D (k.back g)
theorem ev_frz {i : Nat} {xs : List PyData} (hi : s0[i]? = some (.l xs)) (h : Ev X e (s0.set i (.d (.list xs))) s1 d) : Ev X e s0 s1 d := .mk fun E Q q => by
  obtain ⟨G', g, E'⟩ := E.frzL hi
  exact h E' Q fun v G2 H2 E2 g2 r2 => q v G2 H2 E2 (g.trans g2) r2
theorem en_drop {K : PySem.W.Frag} {G₀ H₀ G H : Hp} {σ : L2.St} {sls : List Sl} (E : En K G₀ H₀ G H σ sls) (i : Nat) : En K G₀ H₀ G H σ (sls.set i .x) :=
  E.forget (by rw [List.length_set, E.len]) fun j => by
    by_cases q : i = j
    · subst q
      by_cases hi : i < sls.length
      · exact .inl (List.getElem?_set_self hi)
      · exact .inr (.inl (by rw [List.getElem?_eq_none_iff, List.length_set]; omega))
    · exact .inr (.inr ⟨List.getElem?_set_ne q, rfl⟩)
theorem sv_drop (i : Nat) (h : Sv X ss (s0.set i .x) r) : Sv X ss s0 r := .mk fun E D k => h (en_drop E i) D k

/-! ### assignments -/
theorem st_asg {i : Nat} {x : Str} {pos' : Pos} (h : Ev X e s0 s1 d) (hi : X.N[i]? = some x) (hl : i < s1.length) (hN : X.N.Nodup) (hx : Loc X.env.scope x := by first | exact Or.inl rfl | exact Or.inr rfl) (hs : swapsWith e (some (.Name x pos')) pos.line X.env = pure false := by rfl)
    (hf : X.fn x = true ∨ X.env.scope.names.lookup x = some .local := by first | exact .inl rfl | exact .inr rfl) : St1 X (.Assign [.Name x pos'] e pos) s0 (.nx (s1.set i (.d d))) := .mk fun E D k =>
  WS.of (ps_set hN hi hx pe_W hs hf) (h E _ fun v G' H' E' g r => k _ G' H' (E'.setD hl r) g)
theorem st_asgL {i : Nat} {x : Str} {pos' : Pos} {xs : List PyData} (h : EvL X e s0 s1 xs) (hi : X.N[i]? = some x) (hl : i < s1.length) (hN : X.N.Nodup) (hx : Loc X.env.scope x := by first | exact Or.inl rfl | exact Or.inr rfl) (hs : swapsWith e (some (.Name x pos')) pos.line X.env = pure false := by rfl)
    (hf : X.fn x = true ∨ X.env.scope.names.lookup x = some .local := by first | exact .inl rfl | exact .inr rfl) : St1 X (.Assign [.Name x pos'] e pos) s0 (.nx (s1.set i (.l xs))) := .mk fun E D k =>
  WS.of (ps_set hN hi hx pe_W hs hf) (h E _ fun a vs G' H' E' g ha r => k _ G' _ (E'.setL hl ha r) g)
theorem st_ret (h : Ev X e s0 s1 d) : St1 X (.Return (some e) pos) s0 (.ret s1 d) := .mk fun {G₀ H₀ G H σ} E D k => WS.of (ps_ret pe_W) (h E _ fun v G' H' E' g r => k v _ G' H' E' g r)
theorem st_drop (h : Ev X e s0 s1 d) (hs : swapsWith e none pos.line X.env = pure false := by rfl) : St1 X (.Expr e pos) s0 (.nx s1) := .mk fun {G₀ H₀ G H σ} E D k => WS.of (ps_expr pe_W hs) (h E _ fun v G' H' E' g r => k _ G' H' E' g)
theorem st_pass : St1 X (.Pass pos) s0 (.nx s0) := .mk fun {G₀ H₀ G H σ} E D k => WS.of ps_pass (k σ G H E (Ex.refl G))
theorem st_if {a b : List Stmt} {k : Bool} (h : EvT X c s0 s1 k) (h1 : k = true → Sv X a s1 r) (h2 : k = false → Sv X b s1 r) : St1 X (.If c a b pos) s0 r := .mk fun {G₀ H₀ G H σ} E D q =>
  WS.of (ps_if pt_W pss_W pss_W) (h E _ fun G' H' E' g => by
    cases k with
    | true => exact h1 rfl E' D (q.back g)
    | false => exact h2 rfl E' D (q.back g))
theorem st_ifT {a b : List Stmt} (h : EvT X c s0 s1 true) (h1 : Sv X a s1 r) : St1 X (.If c a b pos) s0 r := st_if h (fun _ => h1) fun q => nomatch q
theorem st_ifF {a b : List Stmt} (h : EvT X c s0 s1 false) (h1 : Sv X b s1 r) : St1 X (.If c a b pos) s0 r := st_if h (fun q => nomatch q) fun _ => h1

/-! ### targets of several names -/
def WG (X : Cx) (tg : Expr) : TG := fun v σ H Q => ∀ pins s u, L2.Inv X pins σ H s → RelV v u → wpAny (model X.prog X.w) X.A (assign tg X.env u) (fun _ s' => ∃ σ' H', L2.Inv X pins σ' H' s' ∧ Q σ' H') X.xe s
def WGs (X : Cx) (tgs : List Expr) : TGs := fun vs σ H Q => ∀ pins s us, L2.Inv X pins σ H s → Vals vs us → wpAny (model X.prog X.w) X.A (assignInOrder ((assignEach tgs X.env).map (·.2)) us) (fun _ s' => ∃ σ' H', L2.Inv X pins σ' H' s' ∧ Q σ' H') X.xe s
theorem pg_W {tg : Expr} : PG X tg (WG X tg) := ⟨fun pins s σ H v u Q I r h => h pins s u I r⟩
theorem pgs_W {tgs : List Expr} : PGs X tgs (WGs X tgs) := ⟨fun pins s σ H v u Q I r h => h pins s u I r⟩
theorem WG.of {tg : Expr} {t : TG} {v : V} {σ : L2.St} {H : Hp} {Q : L2.St → Hp → Prop} (h : PG X tg t) (q : t v σ H Q) : WG X tg v σ H Q := fun pins s u I r => h.run pins s σ H v u Q I r q
theorem WGs.of {tgs : List Expr} {t : TGs} {vs : List V} {σ : L2.St} {H : Hp} {Q : L2.St → Hp → Prop} (h : PGs X tgs t) (q : t vs σ H Q) : WGs X tgs vs σ H Q := fun pins s u I r => h.run pins s σ H vs u Q I r q
/-- d is given to the target; ts: the slots that it fills -/
structure Tg (X : Cx) (tg : Expr) (sl : List Sl) (d : PyData) (sl' : List Sl) (ts : List Nat) : Prop where
  run : ∀ {G₀ H₀ G H : Hp} {σ : L2.St} {v : V}, En X.K G₀ H₀ G H σ sl → Dd X.K G v d → ∀ Q : L2.St → Hp → Prop, (∀ σ', En X.K G₀ H₀ G H σ' sl' → σ'.length = σ.length → (∀ j : Nat, j ∉ ts → σ'[j]? = σ[j]?) → Q σ' H) → WG X tg v σ H Q
instance {X : Cx} {tg : Expr} {sl : List Sl} {d : PyData} {sl' : List Sl} {ts : List Nat} : CoeFun (Tg X tg sl d sl' ts) (fun _ => ∀ {G₀ H₀ G H : Hp} {σ : L2.St} {v : V}, En X.K G₀ H₀ G H σ sl → Dd X.K G v d → ∀ Q : L2.St → Hp → Prop, (∀ σ', En X.K G₀ H₀ G H σ' sl' → σ'.length = σ.length → (∀ j : Nat, j ∉ ts → σ'[j]? = σ[j]?) → Q σ' H) → WG X tg v σ H Q) := ⟨fun h => h.run⟩
structure Tgs (X : Cx) (tgs : List Expr) (sl : List Sl) (ds : List PyData) (sl' : List Sl) (ts : List Nat) : Prop where
  run : ∀ {G₀ H₀ G H : Hp} {σ : L2.St} {vs : List V}, En X.K G₀ H₀ G H σ sl → DdAll X.K G vs ds → ∀ Q : L2.St → Hp → Prop, (∀ σ', En X.K G₀ H₀ G H σ' sl' → σ'.length = σ.length → (∀ j : Nat, j ∉ ts → σ'[j]? = σ[j]?) → Q σ' H) → WGs X tgs vs σ H Q
instance {X : Cx} {tgs : List Expr} {sl : List Sl} {ds : List PyData} {sl' : List Sl} {ts : List Nat} : CoeFun (Tgs X tgs sl ds sl' ts) (fun _ => ∀ {G₀ H₀ G H : Hp} {σ : L2.St} {vs : List V}, En X.K G₀ H₀ G H σ sl → DdAll X.K G vs ds → ∀ Q : L2.St → Hp → Prop, (∀ σ', En X.K G₀ H₀ G H σ' sl' → σ'.length = σ.length → (∀ j : Nat, j ∉ ts → σ'[j]? = σ[j]?) → Q σ' H) → WGs X tgs vs σ H Q) := ⟨fun h => h.run⟩
theorem tg_name {i : Nat} {x : Str} (hi : X.N[i]? = some x) (hl : i < s0.length) (hN : X.N.Nodup) (hx : Loc X.env.scope x := by first | exact Or.inl rfl | exact Or.inr rfl) (hf : X.fn x = true ∨ X.env.scope.names.lookup x = some .local := by first | exact .inl rfl | exact .inr rfl) : Tg X (.Name x pos) s0 d (s0.set i (.d d)) [i] := .mk fun E r Q q => WG.of (pg_name hN hi hx hf) (q _ (E.setD hl r) (by rw [List.length_set]) fun j hj => List.getElem?_set_ne (by simpa using Ne.symm (show j ≠ i by simpa using hj)))
theorem tgs_nil : Tgs X [] s0 [] s0 [] := .mk fun E r Q q => WGs.of pgs_nil (by cases r; exact ⟨rfl, q _ E rfl fun _ _ => rfl⟩)
theorem tgs_cons {ds : List PyData} {t1 t2 : List Nat} (h : Tg X e s0 d s1 t1) (hr : Tgs X es s1 ds s2 t2) (hs : (assignEach (e :: es) X.env).map (·.2) = assign e X.env :: (assignEach es X.env).map (·.2) := by rfl) : Tgs X (e :: es) s0 (d :: ds) s2 (t1 ++ t2) := .mk fun E r Q q => by
  refine WGs.of (pgs_cons pg_W pgs_W hs) ?_
  cases r with
  | cons r1 r2 => exact ⟨_, _, rfl, h E r1 _ fun σ' E' l1 k1 => hr E' r2 Q fun σ2 E2 l2 k2 => q σ2 E2 (l2.trans l1) fun j hj => (k2 j fun z => hj (List.mem_append_right _ z)).trans (k1 j fun z => hj (List.mem_append_left _ z))⟩
theorem tg_tup {ds : List PyData} {k : Nat} {ts : List Nat} (h : Tgs X es s0 ds s1 ts) (hc : X.calm = true := by rfl) (hn : (assignEach es X.env).length = ds.length := by rfl) (hst : (assignEach es X.env).findIdx? (·.1) = none := by rfl) : Tg X (.Tuple es k pos) s0 (.tuple ds) s1 ts := .mk fun E r Q q => by
  refine WG.of (pg_tup hc pgs_W hn hst) ?_
  cases r with
  | tup s a => exact ⟨_, _, rfl, SqT.of (E.s _ _ s), dpAll_len a, h E a Q q⟩
theorem st_asgT {tg : Expr} {ts : List Nat} (h : Ev X e s0 s1 d) (ht : Tg X tg s1 d s2 ts) (hs : swapsWithSole [tg] e pos.line X.env = pure false := by rfl) (hw : swappedStores [tg] e X.env = pure none := by rfl)
    (h1 : (assignEach [tg] X.env).map (·.2) = [assign tg X.env] := by rfl) : St1 X (.Assign [tg] e pos) s0 (.nx s2) := .mk fun E D k =>
  WS.of (ps_asg pe_W pg_W hs hw h1) (h E _ fun v G' H' E' gr r => ht E' r _ fun σ' E2 _ _ => k σ' G' H' E2 gr)
/-- a, b = x, y: told by what both hold, data or a list of one's own -/
theorem st_par {i j : Nat} {x y : Str} {a b : Expr} {px py pt : Pos} {kt k2 pt2} {v w : PyData} (ha : EvA X [a, b] s0 s1 [v, w]) (hi : X.N[i]? = some x) (hj : X.N[j]? = some y) (hij : i ≠ j) (hli : i < s1.length) (hlj : j < s1.length) (hN : X.N.Nodup)
    (hx : X.env.scope.names.lookup x = some .local := by rfl) (hy : X.env.scope.names.lookup y = some .local := by rfl) (hc : X.calm = true := by rfl)
    (hw : swappedStores [.Tuple [.Name x px, .Name y py] kt pt] (.Tuple [a, b] k2 pt2) X.env = pure (some [x, y]) := by rfl)
    (hs : swapsWithSole [.Tuple [.Name x px, .Name y py] kt pt] (.Tuple [a, b] k2 pt2) pos.line X.env = pure false := by rfl) :
    St1 X (.Assign [.Tuple [.Name x px, .Name y py] kt pt] (.Tuple [a, b] k2 pt2) pos) s0 (.nx ((s1.set i (.d v)).set j (.d w))) := .mk fun E D k =>
  WS.of (ps_par hc hN hi hj hij hx hy pa_W hw hs) (ha E _ fun vs G' H' E' g r => by
    cases r with
    | cons r1 r2 =>
      cases r2 with
      | cons r2 r3 =>
        cases r3
        exact ⟨_, _, rfl, k _ G' H' ((E'.setD hli r1).setD (by rw [List.length_set]; exact hlj) r2) g⟩)
end
end Ewl

set_option maxRecDepth 100000
set_option maxHeartbeats 2000000
/-! What a def promises, over data; calls. -/
namespace Ewl
open PySem L2

/-- a def on data: g tells the result of the arguments -/
def spD (K : PySem.W.Frag) (g : List PyData → PyData → Prop) : Sp := fun vs H Q _ =>
  ∃ G ds z, Ex G H ∧ DdAll K G vs ds ∧ g ds z ∧ ∀ v G' H', Gw G H G' H' → Dd K G' v z → Q v H'
/-- a def whose first argument is a dict (texts as keys) that it changes: g tells the dict behind it and the result -/
def spS (K : PySem.W.Frag) (g : List (Key × PyData) → List PyData → List (Key × PyData) → PyData → Prop) : Sp := fun vs H Q _ =>
  ∃ G p ws ps kvs ds kvs' z, vs = .ref p :: ws ∧ Ex G H ∧ G p = none ∧ H p = some (.dK ps) ∧ KD K G ps kvs ∧ DdAll K G ws ds ∧ g kvs ds kvs' z ∧
    ∀ v G' H' ps', Ex G G' → Ex G' H' → (∀ b u, b ≠ p → H b = some u → H' b = some u) → (∀ b u, b ≠ p → H b = some u → G b = none → G' b = none) → G' p = none → H' p = some (.dK ps') → KD K G' ps' kvs' → Dd K G' v z → Q v H'
/-- a def on data that hands back a new dict -/
def spK (K : PySem.W.Frag) (g : List PyData → List (Key × PyData) → Prop) : Sp := fun vs H Q _ =>
  ∃ G ds kvs, Ex G H ∧ DdAll K G vs ds ∧ g ds kvs ∧ ∀ a ps G' H', Gw G H G' H' → H' a = none → KD K G' ps kvs → Q (.ref a) (L2.upd H' a (.dK ps))

/-- the def x stands so in the module, and keeps its promise -/
def Fn (P : Program) (w : World) (K : PySem.W.Frag) (mg : Str → Option Value) (base : Heap) (x : Str) (k : Nat) (sp : Sp) : Prop :=
  ∃ (f : Addr) (fd : FuncData) (ps : List Str) (ds : List Value) , ds = [] ∧ mg x = some (.ref f) ∧ PySem.W.keepIn K (.ref f) = true ∧ FnOk P w K mg base CX0 k f fd ps sp ∧ Binds K fd ps ds
section
variable {X : Cx} {e : Expr} {es : List Expr} {s0 s1 s2 : List Sl} {ds : List PyData} {z : PyData} {pos p : Pos} {x : Str} {k : Nat}
theorem ev_call {g : List PyData → PyData → Prop} (F : Fn X.prog X.w X.K X.mg X.base x k (spD X.K g)) (hr : Room k X.A) (ha : EvA X (e :: es) s0 s1 ds) (hg : g ds z) (hgl : Gl X x := by rfl) (hdb : (x == ("__debug__" : Str)) = false := by decide)
    (he : starEach (e :: es) X.env = (false, eval e X.env) :: starEach es X.env := by rfl) (hpl : (backTo pos (starEach es X.env)).any (·.1) = false := by rfl) : Ev X (.Call (.Name x p) (e :: es) [] pos) s0 s1 z := .mk fun E Q q => by
  obtain ⟨f, fd, ps, ds', e', hm, hk, hf, hb⟩ := F
  subst e'
  refine W.of (pe_call hf hr hgl hm hk hb .nil pass0 pa_W hdb he hpl) (ha E _ fun vs G1 H1 E1 g1 r1 => ?_)
  refine ⟨G1, ds, z, E1.s, by rw [List.append_nil]; exact r1, hg, fun v G2 H2 g2 r2 => q v G2 H2 (E1.grow g2) (g1.trans g2.g) r2⟩
/-- f(state, ..): the dict stands in slot i -/
theorem ev_callS {g : List (Key × PyData) → List PyData → List (Key × PyData) → PyData → Prop} {i : Nat} {y : Str} {py : Pos} {o : Option Addr} {kvs kvs' : List (Key × PyData)} (F : Fn X.prog X.w X.K X.mg X.base x k (spS X.K g)) (hr : Room k X.A)
    (ha : EvA X es s0 s1 ds) (hs : s1[i]? = some (.dk o kvs)) (hs0 : ∃ o' kvs', s0[i]? = some (.dk o' kvs')) (hg : g kvs ds kvs' z) (hN : X.N[i]? = some y) (hv : Vis X.env.scope y := by first | exact Or.inl rfl | exact Or.inr (Or.inl rfl) | exact Or.inr (Or.inr rfl))
    (hd : (y == ("__debug__" : Str)) = false := by decide) (hcd : (y == ("__classdict__" : Str)) = false := by decide) (hgl : Gl X x := by rfl) (hdb : (x == ("__debug__" : Str)) = false := by decide)
    (he : starEach (.Name y py :: es) X.env = (false, eval (.Name y py) X.env) :: starEach es X.env := by rfl) (hpl : (backTo pos (starEach es X.env)).any (·.1) = false := by rfl) : Ev X (.Call (.Name x p) (.Name y py :: es) [] pos) s0 (s1.set i (.dk o kvs')) z := .mk fun {G₀ H₀ G H σ} E Q q => by
  obtain ⟨f, fd, ps, ds', e', hm, hk, hf, hb⟩ := F
  subst e'
  obtain ⟨o', kvs0, hs0⟩ := hs0
  obtain ⟨a, ps0, hσ, _⟩ := E.getK hs0
  refine W.of (pe_call hf hr hgl hm hk hb .nil pass0 (pa_cons (pe_var hN hv hd hcd) pa_W he) hdb he hpl) ?_
  refine ⟨.ref a, hσ, ?_⟩
  refine ha E _ fun vs G1 H1 E1 g1 r1 => ?_
  obtain ⟨a', ps1, hσ', eo, gn, h0, ha1, rk⟩ := E1.getK hs
  rw [hσ] at hσ'
  cases hσ'
  refine ⟨G1, a, vs, ps1, kvs, ds, kvs', z, by rw [List.append_nil], E1.s, gn, ha1, rk, r1, hg, fun v G2 H2 ps2 g2 s2 k1 k2 n2 h2 rk2 rz => ?_⟩
  exact q v G2 H2 (E1.putK hs hσ g2 s2 k1 k2 n2 h2 rk2) (g1.trans g2) rz
/-- y = f(..), f hands back a new dict -/
theorem st_asgK {g : List PyData → List (Key × PyData) → Prop} {i : Nat} {y : Str} {py sp' : Pos} {kvs : List (Key × PyData)} (F : Fn X.prog X.w X.K X.mg X.base x k (spK X.K g)) (hr : Room k X.A) (ha : EvA X (e :: es) s0 s1 ds) (hg : g ds kvs) (hi : X.N[i]? = some y) (hl : i < s1.length) (hN : X.N.Nodup)
    (hx : Loc X.env.scope y := by first | exact Or.inl rfl | exact Or.inr rfl) (hgl : Gl X x := by rfl) (hdb : (x == ("__debug__" : Str)) = false := by decide)
    (he : starEach (e :: es) X.env = (false, eval e X.env) :: starEach es X.env := by rfl) (hpl : (backTo pos (starEach es X.env)).any (·.1) = false := by rfl)
    (hs : swapsWith (.Call (.Name x p) (e :: es) [] pos) (some (.Name y py)) sp'.line X.env = pure false := by rfl)
    (hf : X.fn y = true ∨ X.env.scope.names.lookup y = some .local := by first | exact .inl rfl | exact .inr rfl) : St1 X (.Assign [.Name y py] (.Call (.Name x p) (e :: es) [] pos) sp') s0 (.nx (s1.set i (.dk none kvs))) := .mk fun E D kk => by
  obtain ⟨f, fd, ps, ds', e', hm, hk, hf', hb⟩ := F
  subst e'
  refine WS.of (ps_set hN hi hx (pe_call hf' hr hgl hm hk hb .nil pass0 pa_W hdb he hpl) hs hf) (ha E _ fun vs G1 H1 E1 g1 r1 => ?_)
  refine ⟨G1, ds, kvs, E1.s, by rw [List.append_nil]; exact r1, hg, fun a ps2 G2 H2 g2 ha2 r2 => ?_⟩
  exact kk _ G2 _ ((E1.grow g2).setK hl ha2 r2) (g1.trans g2.g)
end

/-! ### a def's body keeps its promise -/
section
variable {P : Program} {w : World} {K : PySem.W.Frag} {mg : Str → Option Value} {base : Heap}
theorem slots_get {vs : List V} {ds : List PyData} {G : Hp} (h : DdAll K G vs ds) (i : Nat) (n : Nat) : SlotIs K G H (vs.map some ++ List.replicate n none) (ds.map Sl.d ++ List.replicate n Sl.x) i [] := by
  have hl := dpAll_len h
  by_cases q : i < ds.length
  · have e1 : (ds.map Sl.d ++ List.replicate n Sl.x)[i]? = some (.d ds[i]) := by
      rw [List.getElem?_append_left (by simpa using q)]
      simp [q]
    obtain ⟨v, h1, h2⟩ := dpAll_get h (show ds[i]? = some ds[i] by simp [q])
    refine .of e1 (v := v) ?_ ⟨rfl, h2⟩
    rw [List.getElem?_append_left (by simpa [hl] using q)]
    simp [h1]
  · have e1 : (ds.map Sl.d ++ List.replicate n Sl.x)[i]? = none ∨ (ds.map Sl.d ++ List.replicate n Sl.x)[i]? = some .x := by
      rw [List.getElem?_append_right (by simpa using q)]
      simp only [List.length_map]
      by_cases z : i - ds.length < n
      · right; simp [z]
      · left; simp; omega
    unfold SlotIs
    rcases e1 with e1 | e1 <;> rw [e1]
/-- the entry's slots -/
theorem en_start {vs : List V} {ds : List PyData} {G H : Hp} {N : List Str} (s : Ex G H) (h : DdAll K G vs ds) : En K G H G H (L2.start N vs) (ds.map Sl.d ++ List.replicate (N.length - ds.length) Sl.x) := by
  have hl := dpAll_len h
  refine ⟨.refl s, ?_, fun _ => [], fun i => ?_, fun i j a ha _ => (by cases ha), fun i a ha => (by cases ha)⟩
  · unfold L2.start
    simp [hl]
  · unfold L2.start
    rw [hl]
    exact slots_get h i _
theorem en_startS {vs : List V} {ds : List PyData} {G H : Hp} {N : List Str} {p : Addr} {ps : List (Key × V)} {kvs : List (Key × PyData)} (s : Ex G H) (gn : G p = none) (hp : H p = some (.dK ps)) (hk : KD K G ps kvs) (h : DdAll K G vs ds) :
    En K G (del H p) G H (L2.start N (.ref p :: vs)) (.dk (some p) kvs :: (ds.map Sl.d ++ List.replicate (N.length - (ds.length + 1)) Sl.x)) := by
  have hl := dpAll_len h
  refine ⟨⟨Ex.refl G, fun a o e => ?_, s, fun a o e n => n⟩, ?_, fun i => if i = 0 then [p] else [], fun i => ?_, fun i j a ha hb => ?_, fun i a ha => ?_⟩
  · by_cases q : a = p
    · subst q; rw [del_same] at e; cases e
    · rw [del_ne q] at e; exact e
  · unfold L2.start
    simp [hl]
  · cases i with
    | zero => exact .of rfl rfl ⟨p, ps, rfl, ⟨rfl, fun b e => (Option.some.inj e).symm⟩, gn, hp, hk⟩
    | succ i =>
      have q := slots_get (H := H) h i (N.length - (ds.length + 1))
      show SlotIs K G H (L2.start N (.ref p :: vs)) _ (i + 1) (if i + 1 = 0 then [p] else [])
      rw [if_neg (by omega)]
      have e : L2.start N (.ref p :: vs) = some (.ref p) :: (vs.map some ++ List.replicate (N.length - (ds.length + 1)) none) := by
        unfold L2.start
        rw [List.map_cons, List.length_cons, List.cons_append, hl]
      rw [e]
      exact q
  · by_cases qi : i = 0
    · by_cases qj : j = 0
      · rw [qi, qj]
      · simp only [if_neg qj] at hb; cases hb
    · simp only [if_neg qi] at ha; cases ha
  · by_cases qi : i = 0
    · simp only [if_pos qi, List.mem_singleton] at ha
      rw [ha]; exact del_same
    · simp only [if_neg qi] at ha; cases ha
/-- a def on data -/
theorem okD {x qual : Str} {st : Stmt} {f : Addr} {fd : FuncData} {N ps : List Str} {k : Nat} {g : List PyData → PyData → Prop} (F : Fun K x qual st f fd) (S : FnScope N ps (defScope st)) (len : ∀ ds z, g ds z → ds.length = ps.length)
    (hb : ∀ (cdv : Value) (A : Around) (outer : List Env) (s : Shared) (H : Hp) (E : XK), Room k (A.deeper (PyProof.Rows.envOfC qual (defScope st) s.heap.objs.size f cdv)) → ∀ ds z, g ds z →
      ∃ sl', Sv (cxOf CX0 P w K mg base N qual (defScope st) f cdv A outer s H E).nox (defBody st) (ds.map Sl.d ++ List.replicate (N.length - ds.length) Sl.x) (.ret sl' z)) : FnOk P w K mg base CX0 (k + 1) f fd ps (spD K g) := by
  refine F.ok S (fun vs H Q E h => ?_) (fun cdv A outer s H vs Q E hr h => ?_)
  · obtain ⟨G, ds, z, _, r, hg, _⟩ := h
    rw [dpAll_len r]; exact len ds z hg
  · obtain ⟨G, ds, z, sx, r, hg, q⟩ := h
    obtain ⟨sl', h'⟩ := hb cdv A outer s H E hr ds z hg
    exact ⟨_, pss_W, h' (en_start sx r) _ fun v σ G' H' E' g' r' => q v G' H' E'.gw r'⟩
/-- the same, the body ends without handing back -/
theorem okN {x qual : Str} {st : Stmt} {f : Addr} {fd : FuncData} {N ps : List Str} {k : Nat} {g : List PyData → PyData → Prop} (F : Fun K x qual st f fd) (S : FnScope N ps (defScope st)) (len : ∀ ds z, g ds z → ds.length = ps.length) (hz : ∀ ds z, g ds z → z = .none)
    (hb : ∀ (cdv : Value) (A : Around) (outer : List Env) (s : Shared) (H : Hp) (E : XK), Room k (A.deeper (PyProof.Rows.envOfC qual (defScope st) s.heap.objs.size f cdv)) → ∀ ds z, g ds z →
      ∃ sl', Sv (cxOf CX0 P w K mg base N qual (defScope st) f cdv A outer s H E).nox (defBody st) (ds.map Sl.d ++ List.replicate (N.length - ds.length) Sl.x) (.nx sl')) : FnOk P w K mg base CX0 (k + 1) f fd ps (spD K g) := by
  refine F.ok S (fun vs H Q E h => ?_) (fun cdv A outer s H vs Q E hr h => ?_)
  · obtain ⟨G, ds, z, _, r, hg, _⟩ := h
    rw [dpAll_len r]; exact len ds z hg
  · obtain ⟨G, ds, z, sx, r, hg, q⟩ := h
    obtain ⟨sl', h'⟩ := hb cdv A outer s H E hr ds z hg
    refine ⟨_, pss_W, h' (en_start sx r) _ fun σ G' H' E' g' => q .non G' H' E'.gw ?_⟩
    rw [hz ds z hg]; exact .non
/-- a def that changes the dict that is its first argument -/
theorem okS {x qual : Str} {st : Stmt} {f : Addr} {fd : FuncData} {N ps : List Str} {k : Nat} {g : List (Key × PyData) → List PyData → List (Key × PyData) → PyData → Prop} (F : Fun K x qual st f fd) (S : FnScope N ps (defScope st)) (len : ∀ kvs ds kvs' z, g kvs ds kvs' z → ds.length + 1 = ps.length)
    (hb : ∀ (cdv : Value) (A : Around) (outer : List Env) (s : Shared) (H : Hp) (E : XK), Room k (A.deeper (PyProof.Rows.envOfC qual (defScope st) s.heap.objs.size f cdv)) → ∀ p kvs ds kvs' z, g kvs ds kvs' z →
      ∃ sl', sl'[0]? = some (.dk (some p) kvs') ∧ Sv (cxOf CX0 P w K mg base N qual (defScope st) f cdv A outer s H E).nox (defBody st) (.dk (some p) kvs :: (ds.map Sl.d ++ List.replicate (N.length - (ds.length + 1)) Sl.x)) (.ret sl' z)) : FnOk P w K mg base CX0 (k + 1) f fd ps (spS K g) := by
  refine F.ok S (fun vs H Q E h => ?_) (fun cdv A outer s H vs Q E hr h => ?_)
  · obtain ⟨G, p, ws, ps', kvs, ds, kvs', z, rfl, _, _, _, _, r, hg, _⟩ := h
    rw [List.length_cons, dpAll_len r]; exact len kvs ds kvs' z hg
  · obtain ⟨G, p, ws, ps', kvs, ds, kvs', z, rfl, sx, gn, hp, hk, r, hg, q⟩ := h
    obtain ⟨sl', h0, h'⟩ := hb cdv A outer s H E hr p kvs ds kvs' z hg
    refine ⟨_, pss_W, h' (en_startS sx gn hp hk r) _ fun v σ G' H' E' g' r' => ?_⟩
    obtain ⟨a, ps2, hσ, eo, n2, _, ha, hk2⟩ := E'.getK h0
    have ea : a = p := (eo p rfl).symm
    subst ea
    exact q v G' H' ps2 g' E'.s (fun b u hb hu => E'.gw.h b u (by rw [del_ne hb]; exact hu)) (fun b u hb hu n => E'.gw.m b u (by rw [del_ne hb]; exact hu) n) n2 ha hk2 r'
end
end Ewl

set_option maxRecDepth 100000
set_option maxHeartbeats 2000000
/-! Loops and comprehensions over data. -/
namespace Ewl
open PySem L2

/-- an iterator that yields these data, and stops -/
def Yl (K : PySem.W.Frag) (G : Hp) (J : It) (items : List PyData) : Prop := ∀ (i : Nat) (G1 H1 : Hp), Ex G G1 → Ex G1 H1 →
  (i < items.length → J.go i H1 ∧ ∀ x H2, J.yld i H1 x H2 → ∃ G2 d, items[i]? = some d ∧ Gw G1 H1 G2 H2 ∧ Dd K G2 x d) ∧ (i = items.length → J.stop i H1)
def WI (X : Cx) (tg iter : Expr) : TI := fun σ H R => ∀ pins s, L2.Inv X pins σ H s →
  wpAny (model X.prog X.w) X.A (eval iter X.env) (fun v s1 => wpAny (model X.prog X.w) X.A (pyIter v) (PIE X pins σ tg R) X.xe s1) X.xe s
theorem pi_W {X : Cx} {tg iter : Expr} : PI X tg iter (WI X tg iter) := ⟨fun pins s σ H R I h => h pins s I⟩
theorem WI.of {X : Cx} {tg iter : Expr} {t : TI} {σ : L2.St} {H : Hp} {R : It → Hp → Prop} (h : PI X tg iter t) (q : t σ H R) : WI X tg iter σ H R := fun pins s I => h.run pins s σ H R I q
structure EvI (X : Cx) (tg iter : Expr) (sl sl' : List Sl) (items : List PyData) : Prop where
  run : ∀ {G₀ H₀ G H : Hp} {σ : L2.St}, En X.K G₀ H₀ G H σ sl → ∀ R : It → Hp → Prop, (∀ J G' H', En X.K G₀ H₀ G' H' σ sl' → Ex G G' → Yl X.K G' J items → R J H') → WI X tg iter σ H R
instance {X : Cx} {tg iter : Expr} {sl sl' : List Sl} {items : List PyData} : CoeFun (EvI X tg iter sl sl' items) (fun _ => ∀ {G₀ H₀ G H : Hp} {σ : L2.St}, En X.K G₀ H₀ G H σ sl → ∀ R : It → Hp → Prop, (∀ J G' H', En X.K G₀ H₀ G' H' σ sl' → Ex G G' → Yl X.K G' J items → R J H') → WI X tg iter σ H R) := ⟨fun h => h.run⟩

theorem yl_list {K : PySem.W.Frag} {G : Hp} {a : Addr} {ds : List PyData} (h : Dd K G (.ref a) (.list ds)) : Yl K G (Itl K a) ds := by
  intro i G1 H1 e1 e2
  cases h with
  | lst s r =>
    have s1 := ex_l (e1.trans e2) s
    refine ⟨fun hi => ?_, fun hi => ⟨_, s1, by rw [dpAll_len r, hi]; exact Nat.le_refl _⟩⟩
    obtain ⟨v, h1, h2⟩ := dpAll_get r (show ds[i]? = some ds[i] by simp [hi])
    refine ⟨⟨_, v, s1, h1⟩, fun x H2 y => ?_⟩
    obtain ⟨rfl, y⟩ := y
    have e := y _ s1
    rw [h1] at e
    cases e
    exact ⟨G1, ds[i], by simp [hi], .refl e2, dp_mono e1 _ h2⟩
theorem yl_tup {K : PySem.W.Frag} {G : Hp} {a : Addr} {ds : List PyData} (h : Dd K G (.ref a) (.tuple ds)) : Yl K G (Itt K a) ds := by
  intro i G1 H1 e1 e2
  cases h with
  | tup s r =>
    have s1 : SqT K H1 a _ := SqT.of ((e1.trans e2) _ _ s)
    refine ⟨fun hi => ?_, fun hi => ⟨_, s1, by rw [dpAll_len r, hi]; exact Nat.le_refl _⟩⟩
    obtain ⟨v, h1, h2⟩ := dpAll_get r (show ds[i]? = some ds[i] by simp [hi])
    refine ⟨⟨_, v, s1, h1⟩, fun x H2 y => ?_⟩
    obtain ⟨rfl, y⟩ := y
    have e := y _ s1
    rw [h1] at e
    cases e
    exact ⟨G1, ds[i], by simp [hi], .refl e2, dp_mono e1 _ h2⟩
def rngD (lo : Int) (n : Nat) : List PyData := (List.range n).map fun i => .int (lo + (i : Nat))
theorem rngD_len {lo : Int} {n : Nat} : (rngD lo n).length = n := by simp [rngD]
theorem rngD_get {lo : Int} {n i : Nat} (h : i < n) : (rngD lo n)[i]? = some (.int (lo + (i : Nat))) := by simp [rngD, h]
theorem yl_rng {K : PySem.W.Frag} {G : Hp} {lo : Int} {n : Nat} : Yl K G (Itr lo n) (rngD lo n) := by
  intro i G1 H1 e1 e2
  rw [rngD_len]
  refine ⟨fun hi => ⟨hi, fun x H2 y => ?_⟩, fun hi => by rw [hi]; exact Nat.le_refl _⟩
  obtain ⟨rfl, rfl⟩ := y
  exact ⟨G1, _, rngD_get hi, .refl e2, .int _⟩
/-- pairs, made anew at each turn -/
def zipD (xs ys : List PyData) : List PyData := List.zipWith (fun x y => .tuple [x, y]) xs ys
def enumD (lo : Nat) (xs : List PyData) : List PyData := zipD (rngD lo xs.length) xs
theorem zipD_len {xs ys : List PyData} : (zipD xs ys).length = min xs.length ys.length := by simp [zipD]
theorem zipD_get {xs ys : List PyData} {i : Nat} {x y : PyData} (h1 : xs[i]? = some x) (h2 : ys[i]? = some y) : (zipD xs ys)[i]? = some (.tuple [x, y]) := by simp [zipD, List.getElem?_zipWith, h1, h2]

section
variable {X : Cx} {tg iter e c elt : Expr} {es : List Expr} {body : List Stmt} {s0 s1 s2 : List Sl} {d : PyData} {ds items : List PyData} {pos p : Pos}
theorem ei_list (h : Ev X e s0 s1 (.list ds)) : EvI X tg e s0 s1 ds := .mk fun E R q => WI.of (pi_list pe_W) (h E _ fun v G' H' E' g r => by
  cases r with
  | lst s a => exact ⟨_, rfl, ⟨_, ex_l E'.s s⟩, q _ G' H' E' g (yl_list (.lst s a))⟩)
theorem ei_tup (h : Ev X e s0 s1 (.tuple ds)) : EvI X tg e s0 s1 ds := .mk fun E R q => WI.of (pi_tup pe_W) (h E _ fun v G' H' E' g r => by
  cases r with
  | tup s a => exact ⟨_, rfl, ⟨_, SqT.of (E'.s _ _ s)⟩, q _ G' H' E' g (yl_tup (.tup s a))⟩)
theorem ei_rng1 {j : Int} (ha : EvA X [e] s0 s1 [.int j]) (hm : X.mg "range" = none) (hj : -(2 ^ 62) ≤ j ∧ j < 2 ^ 62) (hg : Gl X "range" := by rfl) (hs : starEach [e] X.env = [(false, eval e X.env)] := by rfl) : EvI X tg (.Call (.Name "range" p) [e] [] pos) s0 s1 (rngD 0 j.toNat) := .mk fun E R q =>
  WI.of (pi_range1 hg hm pa_W hs) (ha E _ fun vs G' H' E' g r => by
    cases r with
    | cons r1 r2 => cases r2; cases r1; exact ⟨j, rfl, hj.1, hj.2, q _ G' H' E' g yl_rng⟩)

/-! ### for -/
theorem st_for {S : Nat → List Sl} (h : EvI X tg iter s0 (S 0) items) (hs : ∀ i d, items[i]? = some d → ∃ m ts, Tg X tg (S i) d m ts ∧ Sv X body m (.nx (S (i + 1)))) (hc : X.calm = true := by rfl)
    (hp : PassesOwn (model X.prog X.w) X.A X.env X.xe := by exact PassesOwn.never) (hf : ∀ x, foldedSetIterable iter X.env x = pure x := by intro _; rfl) : St1 X (.For tg iter body [] pos) s0 (.nx (S items.length)) := .mk fun {G₀ H₀ G H σ} E D k => by
  refine WS.of (ps_for hp hc pi_W pg_W pss_W hf) (h E _ fun J G' H' E' g y => ?_)
  refine ⟨fun i m σ H => m = items.length - i ∧ i ≤ items.length ∧ ∃ G1, En X.K G₀ H₀ G1 H σ (S i) ∧ Ex G' G1, ⟨items.length, by simp, Nat.zero_le _, G', E', Ex.refl _⟩, ?_⟩
  rintro i m σ1 H1 ⟨rfl, hi, G1, E1, g1⟩
  by_cases hlt : i < items.length
  · obtain ⟨go, yd⟩ := (y i G1 H1 g1 E1.s).1 hlt
    refine .inr ⟨go, fun σ' H' => ∃ G1, En X.K G₀ H₀ G1 H' σ' (S (i + 1)) ∧ Ex G' G1, fun σ' H' ⟨G2, E2, g2⟩ => ⟨items.length - (i + 1), by omega, rfl, hlt, G2, E2, g2⟩, fun x H2 hy => ?_⟩
    obtain ⟨G2, d, hd, gw, r⟩ := yd x H2 hy
    obtain ⟨m, ts, ht, hb⟩ := hs i d hd
    refine ht (E1.grow gw) r _ fun σ' E2 _ _ => hb E2 _ fun σ3 G3 H3 E3 g3 => ⟨G3, E3, (g1.trans gw.g).trans g3⟩
  · have e : i = items.length := by omega
    subst e
    exact .inl ⟨(y _ G1 H1 g1 E1.s).2 rfl, k σ1 G1 H1 E1 (g.trans g1)⟩
/-- it hands back in turn i₀ -/
theorem st_forR {S : Nat → List Sl} {i₀ : Nat} {sl' : List Sl} (h : EvI X tg iter s0 (S 0) items) (hi₀ : i₀ < items.length) (hs : ∀ i d, i < i₀ → items[i]? = some d → ∃ m ts, Tg X tg (S i) d m ts ∧ Sv X body m (.nx (S (i + 1))))
    (hr : ∀ d, items[i₀]? = some d → ∃ m ts, Tg X tg (S i₀) d m ts ∧ Sv X body m (.ret sl' z)) (hc : X.calm = true := by rfl)
    (hp : PassesOwn (model X.prog X.w) X.A X.env X.xe := by exact PassesOwn.never) (hf : ∀ x, foldedSetIterable iter X.env x = pure x := by intro _; rfl) : St1 X (.For tg iter body [] pos) s0 (.ret sl' z) := .mk fun {G₀ H₀ G H σ} E D k => by
  refine WS.of (ps_for hp hc pi_W pg_W pss_W hf) (h E _ fun J G' H' E' g y => ?_)
  refine ⟨fun i m σ H => m = i₀ - i ∧ i ≤ i₀ ∧ ∃ G1, En X.K G₀ H₀ G1 H σ (S i) ∧ Ex G' G1, ⟨i₀, by simp, Nat.zero_le _, G', E', Ex.refl _⟩, ?_⟩
  rintro i m σ1 H1 ⟨rfl, hi, G1, E1, g1⟩
  obtain ⟨go, yd⟩ := (y i G1 H1 g1 E1.s).1 (by omega)
  by_cases hlt : i < i₀
  · refine .inr ⟨go, fun σ' H' => ∃ G1, En X.K G₀ H₀ G1 H' σ' (S (i + 1)) ∧ Ex G' G1, fun σ' H' ⟨G2, E2, g2⟩ => ⟨i₀ - (i + 1), by omega, rfl, hlt, G2, E2, g2⟩, fun x H2 hy => ?_⟩
    obtain ⟨G2, d, hd, gw, r⟩ := yd x H2 hy
    obtain ⟨m, ts, ht, hb⟩ := hs i d hlt hd
    refine ht (E1.grow gw) r _ fun σ' E2 _ _ => hb E2 _ fun σ3 G3 H3 E3 g3 => ⟨G3, E3, (g1.trans gw.g).trans g3⟩
  · have e : i = i₀ := by omega
    subst e
    refine .inr ⟨go, fun _ _ => False, fun _ _ z => z.elim, fun x H2 hy => ?_⟩
    obtain ⟨G2, d, hd, gw, r⟩ := yd x H2 hy
    obtain ⟨m, ts, ht, hb⟩ := hr d hd
    refine ht (E1.grow gw) r _ fun σ' E2 _ _ => hb E2 _ fun v σ3 G3 H3 E3 g3 r3 => k v σ3 G3 H3 E3 (((g.trans g1).trans gw.g).trans g3) r3

/-! ### while -/
theorem st_while {S M : Nat → List Sl} {n : Nat} (hs : ∀ i, i < n → EvT X c (S i) (M i) true ∧ Sv X body (M i) (.nx (S (i + 1)))) (he : EvT X c (S n) s1 false)
    (hp : PassesOwn (model X.prog X.w) X.A X.env X.xe := by exact PassesOwn.never) : St1 X (.While c body [] pos) (S 0) (.nx s1) := .mk fun {G₀ H₀ G H σ} E D k => by
  refine WS.of (ps_while hp pt_W pss_W) ?_
  refine ⟨fun m σ H => ∃ i, m = n - i ∧ i ≤ n ∧ ∃ G1, En X.K G₀ H₀ G1 H σ (S i) ∧ Ex G G1, ⟨n, 0, by simp, Nat.zero_le _, G, E, Ex.refl _⟩, ?_⟩
  rintro m σ1 H1 ⟨i, rfl, hi, G1, E1, g1⟩
  by_cases hlt : i < n
  · obtain ⟨h1, h2⟩ := hs i hlt
    refine h1 E1 _ fun G2 H2 E2 g2 => ?_
    rw [if_pos rfl]
    refine ⟨fun σ' H' => ∃ G1, En X.K G₀ H₀ G1 H' σ' (S (i + 1)) ∧ Ex G G1, fun σ' H' ⟨G3, E3, g3⟩ => ⟨n - (i + 1), by omega, i + 1, rfl, hlt, G3, E3, g3⟩, ?_⟩
    exact h2 E2 _ fun σ3 G3 H3 E3 g3 => ⟨G3, E3, (g1.trans g2).trans g3⟩
  · have e : i = n := by omega
    subst e
    refine he E1 _ fun G2 H2 E2 g2 => ?_
    rw [if_neg Bool.false_ne_true]
    exact k σ1 G2 H2 E2 (g1.trans g2)

/-! ### list comprehensions -/
def wipeS (sl : List Sl) : List Nat → List Sl
  | [] => sl
  | v :: vs => (wipeS sl vs).set v .x
theorem wipeS_len (sl : List Sl) : ∀ vs : List Nat, (wipeS sl vs).length = sl.length
  | [] => rfl
  | v :: vs => by unfold wipeS; rw [List.length_set, wipeS_len sl vs]
theorem wipeS_in (sl : List Sl) {i : Nat} : ∀ {vs : List Nat}, i ∈ vs → (wipeS sl vs)[i]? = some .x ∨ (wipeS sl vs)[i]? = none
  | [], h => by cases h
  | v :: vs, h => by
    unfold wipeS
    by_cases q : v = i
    · subst q
      by_cases hl : v < (wipeS sl vs).length
      · exact .inl (List.getElem?_set_self hl)
      · exact .inr (by rw [List.getElem?_eq_none_iff, List.length_set]; omega)
    · rw [List.getElem?_set_ne q]
      exact wipeS_in sl ((List.mem_cons.mp h).resolve_left (Ne.symm q))
theorem wipeS_out (sl : List Sl) {i : Nat} : ∀ {vs : List Nat}, i ∉ vs → (wipeS sl vs)[i]? = sl[i]?
  | [], _ => rfl
  | v :: vs, h => by
    unfold wipeS
    rw [List.getElem?_set_ne (fun e => h (by rw [e]; exact List.mem_cons_self))]
    exact wipeS_out sl fun m => h (List.mem_cons_of_mem _ m)
theorem wipe_in' {σ : L2.St} {i : Nat} : ∀ {vs : List Nat}, i ∈ vs → (wipe σ vs)[i]? = some none ∨ (wipe σ vs)[i]? = none
  | [], h => by cases h
  | v :: vs, h => by
    unfold wipe
    by_cases q : v = i
    · subst q
      by_cases hl : v < (wipe σ vs).length
      · exact .inl (List.getElem?_set_self hl)
      · exact .inr (by rw [List.getElem?_eq_none_iff, List.length_set]; omega)
    · rw [List.getElem?_set_ne q]
      exact wipe_in' ((List.mem_cons.mp h).resolve_left (Ne.symm q))
theorem wipe_eq {σ τ : L2.St} {vs : List Nat} (hl : σ.length = τ.length) (h : ∀ j : Nat, j ∉ vs → σ[j]? = τ[j]?) : wipe σ vs = wipe τ vs := by
  apply List.ext_getElem?
  intro j
  by_cases q : j ∈ vs
  · by_cases hj : j < σ.length
    · have n1 : (wipe σ vs)[j]? ≠ none := by rw [Ne, List.getElem?_eq_none_iff, wipe_length]; omega
      have n2 : (wipe τ vs)[j]? ≠ none := by rw [Ne, List.getElem?_eq_none_iff, wipe_length]; omega
      rw [(wipe_in' (σ := σ) q).resolve_right n1, (wipe_in' (σ := τ) q).resolve_right n2]
    · rw [List.getElem?_eq_none_iff.mpr (by rw [wipe_length]; omega), List.getElem?_eq_none_iff.mpr (by rw [wipe_length]; omega)]
  · rw [wipe_out q, wipe_out q]; exact h j q
theorem en_wipe {K : PySem.W.Frag} {G₀ H₀ G H : Hp} {σ : L2.St} {sl : List Sl} (E : En K G₀ H₀ G H σ sl) (vs : List Nat) : En K G₀ H₀ G H (wipe σ vs) (wipeS sl vs) :=
  E.forget (by rw [wipe_length, wipeS_len, E.len]) fun i => by
    by_cases q : i ∈ vs
    · rcases wipeS_in sl q with z | z
      · exact .inl z
      · exact .inr (.inl z)
    · exact .inr (.inr ⟨wipeS_out sl q, wipe_out q⟩)
theorem en_unwipe {K : PySem.W.Frag} {G₀ H₀ G H : Hp} {σ : L2.St} {sl : List Sl} {vs : List Nat} (E : En K G₀ H₀ G H (wipe σ vs) sl) : En K G₀ H₀ G H σ (wipeS sl vs) :=
  E.forget (by rw [wipeS_len, ← E.len, wipe_length]) fun i => by
    by_cases q : i ∈ vs
    · rcases wipeS_in sl q with z | z
      · exact .inl z
      · exact .inr (.inl z)
    · exact .inr (.inr ⟨wipeS_out sl q, (wipe_out q).symm⟩)
theorem wipeS_self {sl : List Sl} {vs : List Nat} (h : ∀ i ∈ vs, sl[i]? = some .x ∨ sl[i]? = none) : wipeS sl vs = sl := by
  apply List.ext_getElem?
  intro j
  by_cases q : j ∈ vs
  · have hl := wipeS_len sl vs
    rcases h j q with z | z
    · have : j < sl.length := (List.getElem?_eq_some_iff.mp z).1
      rcases wipeS_in sl q with w | w
      · rw [z, w]
      · rw [List.getElem?_eq_none_iff] at w; omega
    · rw [z, List.getElem?_eq_none_iff, hl]; exact List.getElem?_eq_none_iff.mp z
  · exact wipeS_out sl q
theorem wipeS_idem {sl : List Sl} {vs : List Nat} : wipeS (wipeS sl vs) vs = wipeS sl vs := wipeS_self fun _ hi => wipeS_in sl hi
end
end Ewl

set_option maxRecDepth 100000
set_option maxHeartbeats 2000000
/-! List comprehensions over data. -/
namespace Ewl
open PySem L2
section
variable {X : Cx} {tg iter c elt : Expr} {s0 s1 s2 : List Sl} {items ys : List PyData} {pos : Pos} {scope : Scope} {own : List (Str × Nat)}
/-- the block's context -/
abbrev Blk (X : Cx) (scope : Scope) (s : Shared) (H : Hp) (C : Addr) (cl : List (Str × Addr)) (fp : List Addr) : Cx := X.blk s H scope (compEnvC scope cl C X.env) fp
def GB (X : Cx) (scope : Scope) (tg : Expr) : TG := fun v σ H Q => ∀ (s : Shared) (H0 : Hp) (C : Addr) (cl : List (Str × Addr)) (fp : List Addr), WG (Blk X scope s H0 C cl fp) tg v σ H Q
def EB (X : Cx) (scope : Scope) (elt : Expr) : TE := fun σ H Q => ∀ (s : Shared) (H0 : Hp) (C : Addr) (cl : List (Str × Addr)) (fp : List Addr), W (Blk X scope s H0 C cl fp) elt σ H Q
def TB (X : Cx) (scope : Scope) (c : Expr) : TT := fun σ H Q => ∀ (s : Shared) (H0 : Hp) (C : Addr) (cl : List (Str × Addr)) (fp : List Addr), WT (Blk X scope s H0 C cl fp) c σ H Q
theorem gb_ok {scope : Scope} {tg : Expr} (s : Shared) (H : Hp) (C : Addr) (cl : List (Str × Addr)) (fp : List Addr) : PG (Blk X scope s H C cl fp) tg (GB X scope tg) := ⟨fun pins s' σ H' v u Q I r h => h s H C cl fp pins s' u I r⟩
theorem eb_ok {scope : Scope} {elt : Expr} (s : Shared) (H : Hp) (C : Addr) (cl : List (Str × Addr)) (fp : List Addr) : PE (Blk X scope s H C cl fp) elt (EB X scope elt) := ⟨fun pins s' σ H' Q I h => h s H C cl fp pins s' I⟩
theorem tb_ok {scope : Scope} {c : Expr} (s : Shared) (H : Hp) (C : Addr) (cl : List (Str × Addr)) (fp : List Addr) : PT (Blk X scope s H C cl fp) c (TB X scope c) := ⟨fun pins s' σ H' Q I h => h s H C cl fp pins s' I⟩
theorem take_more {α : Type} {l : List α} {i : Nat} {x : α} (h : l[i]? = some x) : l.take (i + 1) = l.take i ++ [x] := by
  rw [List.take_add_one, h]; rfl
theorem lc_read {S : Nat → List Sl} (hi : EvI X tg iter s0 s1 items) (ok : BlkOk X.N X.env.scope scope own) (h0 : S 0 = wipeS s1 (own.map (·.2))) (hlen : ys.length = items.length) (hsz : items.length ≤ 100000)
    (turn : ∀ i d y, items[i]? = some d → ys[i]? = some y → ∃ m ts m', (∀ j ∈ ts, j ∈ own.map (·.2)) ∧ wipeS m' (own.map (·.2)) = S (i + 1) ∧
      ∀ (s : Shared) (H : Hp) (C : Addr) (cl : List (Str × Addr)) (fp : List Addr), Tg (Blk X scope s H C cl fp) tg (S i) d m ts ∧ Ev (Blk X scope s H C cl fp) elt m m' y)
    {G₀ H₀ G H : Hp} {σ : L2.St} (E : En X.K G₀ H₀ G H σ s0) (Q : VK) (q : ∀ a vs G' H', En X.K G₀ H₀ G' H' σ (S items.length) → Ex G G' → H' a = none → DdAll X.K G' vs ys → Q (.ref a) (L2.upd H' a (.lst vs))) :
    tLc (WI X tg iter) (GB X scope tg) tYes (EB X scope elt) (own.map (·.2)) σ H Q := by
  refine hi E _ fun J G' H' E' g y D hD => ?_
  have h0D : H₀ D = none := E'.gw.h.back hD
  have g0D : G₀ D = none := (E'.gw.g.trans E'.s).back hD
  refine ⟨fun i m H => m = items.length - i ∧ i ≤ items.length ∧ ∃ H1 G1 acc, H = L2.upd H1 D (.lst acc) ∧ H1 D = none ∧ En X.K G₀ H₀ G1 H1 (wipe σ (own.map (·.2))) (S i) ∧ Ex G' G1 ∧ DdAll X.K G1 acc (ys.take i),
    ⟨items.length, by simp, Nat.zero_le _, H', G', [], rfl, hD, by rw [h0]; exact en_wipe E' _, Ex.refl _, .nil⟩, ?_⟩
  rintro i m H3 ⟨rfl, hil, H1, G1, acc, rfl, hD1, E1, g1, ra⟩
  have E1k := E1.keep (o := .lst acc) hD1
  by_cases hlt : i < items.length
  · obtain ⟨go, yd⟩ := (y i G1 _ g1 E1k.s).1 hlt
    refine .inr ⟨go, fun H => ∃ H1 G1 acc, H = L2.upd H1 D (.lst acc) ∧ H1 D = none ∧ En X.K G₀ H₀ G1 H1 (wipe σ (own.map (·.2))) (S (i + 1)) ∧ Ex G' G1 ∧ DdAll X.K G1 acc (ys.take (i + 1)),
      fun H' p => ⟨items.length - (i + 1), by omega, rfl, hlt, p⟩, fun x H2 hy => ?_⟩
    obtain ⟨G2, d, hd, gw, r⟩ := yd x H2 hy
    have hyi : ys[i]? = some ys[i] := by simp [hlen, hlt]
    obtain ⟨m, ts, m', hts, hm', hb⟩ := turn i d ys[i] hd hyi
    intro s H0 C cl fp
    refine (hb s H0 C cl fp).1 (E1k.grow gw) r _ fun σ2 E3 hl2 hout => ⟨?_, ?_⟩
    · refine wipe_eq (by rw [hl2, wipe_length]) fun j hj => ?_
      rw [hout j fun z => hj (hts j z), wipe_out hj]
    · simp only [tYes, if_true]
      intro s' H0' C' cl' fp'
      refine (hb s' H0' C' cl' fp').2 E3 _ fun v G4 H4 E4 g4 r4 => ?_
      obtain ⟨H5, hD5, e5, E5⟩ := E4.unkeep h0D g0D
      have ha4 : H4 D = some (.lst acc) := by rw [e5]; exact upd_same
      refine ⟨acc, ha4, ?_, H5, G4, acc ++ [v], by rw [e5, upd_upd], hD5, ?_, (g1.trans gw.g).trans g4, ?_⟩
      · rw [dpAll_len ra, List.length_take]
        exact Nat.lt_of_le_of_lt (show min i ys.length ≤ 100000 by omega) (by decide)
      · have hw : wipe σ2 (own.map (·.2)) = wipe σ (own.map (·.2)) := wipe_eq (by rw [hl2, wipe_length]) fun j hj => by rw [hout j fun z => hj (hts j z), wipe_out hj]
        rw [← hw, ← hm']
        exact en_wipe E5 _
      · rw [take_more hyi]
        exact dpAll_app (dpAll_mono (gw.g.trans g4) _ ra) (dpAll_one r4)
  · have e : i = items.length := by omega
    subst e
    refine .inl ⟨(y _ G1 _ g1 E1k.s).2 rfl, ?_⟩
    have hw : wipeS (S items.length) (own.map (·.2)) = S items.length := by
      cases hn : items.length with
      | zero => rw [h0]; exact wipeS_idem
      | succ n =>
        have hn' : n < items.length := by omega
        obtain ⟨m, ts, m', _, hm', _⟩ := turn n items[n] ys[n] (by simp [hn']) (by simp [hlen, hn'])
        rw [← hm']; exact wipeS_idem
    refine q D acc G1 H1 ?_ (g.trans g1) hD1 (by rw [← hlen, List.take_length] at ra; exact ra)
    have := en_unwipe E1
    rw [hw] at this
    exact this
theorem el_lc {S : Nat → List Sl} (hi : EvI X tg iter s0 s1 items) (ok : BlkOk X.N X.env.scope scope own) (h0 : S 0 = wipeS s1 (own.map (·.2))) (hlen : ys.length = items.length) (hsz : items.length ≤ 100000)
    (turn : ∀ i d y, items[i]? = some d → ys[i]? = some y → ∃ m ts m', (∀ j ∈ ts, j ∈ own.map (·.2)) ∧ wipeS m' (own.map (·.2)) = S (i + 1) ∧
      ∀ (s : Shared) (H : Hp) (C : Addr) (cl : List (Str × Addr)) (fp : List Addr), Tg (Blk X scope s H C cl fp) tg (S i) d m ts ∧ Ev (Blk X scope s H C cl fp) elt m m' y)
    (hN : X.N.Nodup) (hc : X.calm = true := by rfl) (hs : ∀ x, foldedSetIterable iter X.env x = pure x := by intro _; rfl) : EvL X (.ListComp elt [⟨tg, iter, [], 0⟩] scope pos) s0 (S items.length) ys := .mk fun E Q q =>
  W.of (pe_lc hc hN pi_W ok gb_ok (fun _ _ _ _ _ => pts_nil) eb_ok hs) (lc_read hi ok h0 hlen hsz turn E Q q)
/-- y = [..] -/
theorem st_lc {S : Nat → List Sl} (hi : EvI X tg iter s0 s1 items) (ok : BlkOk X.N X.env.scope scope own) (h0 : S 0 = wipeS s1 (own.map (·.2))) (hlen : ys.length = items.length) (hsz : items.length ≤ 100000)
    (turn : ∀ i d y, items[i]? = some d → ys[i]? = some y → ∃ m ts m', (∀ j ∈ ts, j ∈ own.map (·.2)) ∧ wipeS m' (own.map (·.2)) = S (i + 1) ∧
      ∀ (s : Shared) (H : Hp) (C : Addr) (cl : List (Str × Addr)) (fp : List Addr), Tg (Blk X scope s H C cl fp) tg (S i) d m ts ∧ Ev (Blk X scope s H C cl fp) elt m m' y)
    {j : Nat} {y : Str} {py spos : Pos} (hN : X.N.Nodup) (hy : X.N[j]? = some y) (hlj : j < (S items.length).length) (hyl : X.env.scope.names.lookup y = some .local := by rfl)
    (hsw : swapsWith (.ListComp elt [⟨tg, iter, [], 0⟩] scope pos) (some (.Name y py)) spos.line X.env = pure true := by exact sw_true rfl rfl rfl (by decide +kernel)) (hc : X.calm = true := by rfl) (hs : ∀ x, foldedSetIterable iter X.env x = pure x := by intro _; rfl) :
    St1 X (.Assign [.Name y py] (.ListComp elt [⟨tg, iter, [], 0⟩] scope pos) spos) s0 (.nx ((S items.length).set j (.l ys))) := .mk fun E D k =>
  WS.of (ps_setLc hc hN hy hyl hsw pi_W ok gb_ok (fun _ _ _ _ _ => pts_nil) eb_ok hs) (lc_read hi ok h0 hlen hsz turn E _ fun a vs G' H' E' g ha r => k _ G' _ (E'.setL hlj ha r) g)
/-- with an if: zs tells what is kept -/
theorem lc_readIf {S : Nat → List Sl} {zs : List (Option PyData)} (hi : EvI X tg iter s0 s1 items) (ok : BlkOk X.N X.env.scope scope own) (h0 : S 0 = wipeS s1 (own.map (·.2))) (hlen : zs.length = items.length) (hsz : items.length ≤ 100000)
    (turn : ∀ i d z, items[i]? = some d → zs[i]? = some z → ∃ m ts m1 m', (∀ j ∈ ts, j ∈ own.map (·.2)) ∧ wipeS m' (own.map (·.2)) = S (i + 1) ∧
      ∀ (s : Shared) (H : Hp) (C : Addr) (cl : List (Str × Addr)) (fp : List Addr), Tg (Blk X scope s H C cl fp) tg (S i) d m ts ∧ EvT (Blk X scope s H C cl fp) c m m1 z.isSome ∧ (∀ y, z = some y → Ev (Blk X scope s H C cl fp) elt m1 m' y) ∧ (z = none → m1 = m'))
    {G₀ H₀ G H : Hp} {σ : L2.St} (E : En X.K G₀ H₀ G H σ s0) (Q : VK) (q : ∀ a vs G' H', En X.K G₀ H₀ G' H' σ (S items.length) → Ex G G' → H' a = none → DdAll X.K G' vs (zs.filterMap id) → Q (.ref a) (L2.upd H' a (.lst vs))) :
    tLc (WI X tg iter) (GB X scope tg) (TB X scope c) (EB X scope elt) (own.map (·.2)) σ H Q := by
  refine hi E _ fun J G' H' E' g y D hD => ?_
  have h0D : H₀ D = none := E'.gw.h.back hD
  have g0D : G₀ D = none := (E'.gw.g.trans E'.s).back hD
  refine ⟨fun i m H => m = items.length - i ∧ i ≤ items.length ∧ ∃ H1 G1 acc, H = L2.upd H1 D (.lst acc) ∧ H1 D = none ∧ En X.K G₀ H₀ G1 H1 (wipe σ (own.map (·.2))) (S i) ∧ Ex G' G1 ∧ DdAll X.K G1 acc ((zs.take i).filterMap id),
    ⟨items.length, by simp, Nat.zero_le _, H', G', [], rfl, hD, by rw [h0]; exact en_wipe E' _, Ex.refl _, .nil⟩, ?_⟩
  rintro i m H3 ⟨rfl, hil, H1, G1, acc, rfl, hD1, E1, g1, ra⟩
  have E1k := E1.keep (o := .lst acc) hD1
  by_cases hlt : i < items.length
  · obtain ⟨go, yd⟩ := (y i G1 _ g1 E1k.s).1 hlt
    refine .inr ⟨go, fun H => ∃ H1 G1 acc, H = L2.upd H1 D (.lst acc) ∧ H1 D = none ∧ En X.K G₀ H₀ G1 H1 (wipe σ (own.map (·.2))) (S (i + 1)) ∧ Ex G' G1 ∧ DdAll X.K G1 acc ((zs.take (i + 1)).filterMap id),
      fun H' p => ⟨items.length - (i + 1), by omega, rfl, hlt, p⟩, fun x H2 hy => ?_⟩
    obtain ⟨G2, d, hd, gw, r⟩ := yd x H2 hy
    have hzi : zs[i]? = some zs[i] := by simp [hlen, hlt]
    obtain ⟨m, ts, m1, m', hts, hm', hb⟩ := turn i d zs[i] hd hzi
    intro s H0 C cl fp
    refine (hb s H0 C cl fp).1 (E1k.grow gw) r _ fun σ2 E3 hl2 hout => ?_
    have hw : wipe σ2 (own.map (·.2)) = wipe σ (own.map (·.2)) := wipe_eq (by rw [hl2, wipe_length]) fun j hj => by rw [hout j fun z => hj (hts j z), wipe_out hj]
    refine ⟨hw, ?_⟩
    intro s1' H01 C1 cl1 fp1
    refine (hb s1' H01 C1 cl1 fp1).2.1 E3 _ fun G4 H4 E4 g4 => ?_
    cases hz : zs[i] with
    | none =>
      simp only [Option.isSome_none, Bool.false_eq_true, if_false]
      have em : m1 = m' := (hb s H0 C cl fp).2.2.2 hz
      subst em
      obtain ⟨H5, hD5, e5, E5⟩ := E4.unkeep h0D g0D
      refine ⟨H5, G4, acc, e5, hD5, ?_, (g1.trans gw.g).trans g4, ?_⟩
      · rw [← hw, ← hm']
        exact en_wipe E5 _
      · rw [take_more hzi, hz, List.filterMap_append]
        simp only [List.filterMap_cons, id, List.filterMap_nil, List.append_nil]
        exact dpAll_mono (gw.g.trans g4) _ ra
    | some yv =>
      simp only [Option.isSome_some, if_true]
      intro s' H0' C' cl' fp'
      refine (hb s' H0' C' cl' fp').2.2.1 yv hz E4 _ fun v G6 H6 E6 g6 r6 => ?_
      obtain ⟨H5, hD5, e5, E5⟩ := E6.unkeep h0D g0D
      have ha4 : H6 D = some (.lst acc) := by rw [e5]; exact upd_same
      refine ⟨acc, ha4, ?_, H5, G6, acc ++ [v], by rw [e5, upd_upd], hD5, ?_, ((g1.trans gw.g).trans g4).trans g6, ?_⟩
      · rw [dpAll_len ra]
        have := List.length_filterMap_le id (zs.take i)
        rw [List.length_take] at this
        exact Nat.lt_of_le_of_lt (show _ ≤ 100000 by omega) (by decide)
      · rw [← hw, ← hm']
        exact en_wipe E5 _
      · rw [take_more hzi, hz, List.filterMap_append]
        simp only [List.filterMap_cons, id, List.filterMap_nil]
        exact dpAll_app (dpAll_mono ((gw.g.trans g4).trans g6) _ ra) (dpAll_one r6)
  · have e : i = items.length := by omega
    subst e
    refine .inl ⟨(y _ G1 _ g1 E1k.s).2 rfl, ?_⟩
    have hw : wipeS (S items.length) (own.map (·.2)) = S items.length := by
      cases hn : items.length with
      | zero => rw [h0]; exact wipeS_idem
      | succ n =>
        have hn' : n < items.length := by omega
        obtain ⟨m, ts, m1, m', _, hm', _⟩ := turn n items[n] zs[n] (by simp [hn']) (by simp [hlen, hn'])
        rw [← hm']; exact wipeS_idem
    refine q D acc G1 H1 ?_ (g.trans g1) hD1 (by rw [← hlen, List.take_length] at ra; exact ra)
    have := en_unwipe E1
    rw [hw] at this
    exact this
theorem el_lcIf {S : Nat → List Sl} {zs : List (Option PyData)} (hi : EvI X tg iter s0 s1 items) (ok : BlkOk X.N X.env.scope scope own) (h0 : S 0 = wipeS s1 (own.map (·.2))) (hlen : zs.length = items.length) (hsz : items.length ≤ 100000)
    (turn : ∀ i d z, items[i]? = some d → zs[i]? = some z → ∃ m ts m1 m', (∀ j ∈ ts, j ∈ own.map (·.2)) ∧ wipeS m' (own.map (·.2)) = S (i + 1) ∧
      ∀ (s : Shared) (H : Hp) (C : Addr) (cl : List (Str × Addr)) (fp : List Addr), Tg (Blk X scope s H C cl fp) tg (S i) d m ts ∧ EvT (Blk X scope s H C cl fp) c m m1 z.isSome ∧ (∀ y, z = some y → Ev (Blk X scope s H C cl fp) elt m1 m' y) ∧ (z = none → m1 = m'))
    (hN : X.N.Nodup) (hc : X.calm = true := by rfl) (hs : ∀ x, foldedSetIterable iter X.env x = pure x := by intro _; rfl) : EvL X (.ListComp elt [⟨tg, iter, [c], 0⟩] scope pos) s0 (S items.length) (zs.filterMap id) := .mk fun E Q q =>
  W.of (pe_lc hc hN pi_W ok gb_ok (fun s H C cl fp => pts_one (tb_ok s H C cl fp)) eb_ok hs) (lc_readIf hi ok h0 hlen hsz turn E Q q)
/-- y = [.. if ..] -/
theorem st_lcIf {S : Nat → List Sl} {zs : List (Option PyData)} (hi : EvI X tg iter s0 s1 items) (ok : BlkOk X.N X.env.scope scope own) (h0 : S 0 = wipeS s1 (own.map (·.2))) (hlen : zs.length = items.length) (hsz : items.length ≤ 100000)
    (turn : ∀ i d z, items[i]? = some d → zs[i]? = some z → ∃ m ts m1 m', (∀ j ∈ ts, j ∈ own.map (·.2)) ∧ wipeS m' (own.map (·.2)) = S (i + 1) ∧
      ∀ (s : Shared) (H : Hp) (C : Addr) (cl : List (Str × Addr)) (fp : List Addr), Tg (Blk X scope s H C cl fp) tg (S i) d m ts ∧ EvT (Blk X scope s H C cl fp) c m m1 z.isSome ∧ (∀ y, z = some y → Ev (Blk X scope s H C cl fp) elt m1 m' y) ∧ (z = none → m1 = m'))
    {j : Nat} {y : Str} {py spos : Pos} (hN : X.N.Nodup) (hy : X.N[j]? = some y) (hlj : j < (S items.length).length) (hyl : X.env.scope.names.lookup y = some .local := by rfl)
    (hsw : swapsWith (.ListComp elt [⟨tg, iter, [c], 0⟩] scope pos) (some (.Name y py)) spos.line X.env = pure true := by exact sw_true rfl rfl rfl (by decide +kernel)) (hc : X.calm = true := by rfl) (hs : ∀ x, foldedSetIterable iter X.env x = pure x := by intro _; rfl) :
    St1 X (.Assign [.Name y py] (.ListComp elt [⟨tg, iter, [c], 0⟩] scope pos) spos) s0 (.nx ((S items.length).set j (.l (zs.filterMap id)))) := .mk fun E D k =>
  WS.of (ps_setLc hc hN hy hyl hsw pi_W ok gb_ok (fun s H C cl fp => pts_one (tb_ok s H C cl fp)) eb_ok hs) (lc_readIf hi ok h0 hlen hsz turn E _ fun a vs G' H' E' g ha r => k _ G' _ (E'.setL hlj ha r) g)
end
end Ewl

set_option maxRecDepth 100000
set_option maxHeartbeats 2000000
/-! Comprehensions of two clauses. -/
namespace Ewl
open PySem L2
theorem wipe_wipe {σ τ : L2.St} {vs ws : List Nat} (hv : ∀ i ∈ vs, i ∈ ws) (hl : σ.length = τ.length) (h : ∀ j : Nat, j ∉ ws → σ[j]? = τ[j]?) : wipe (wipe σ vs) ws = wipe τ ws :=
  wipe_eq (by rw [wipe_length, hl]) fun j hj => by rw [wipe_out fun z => hj (hv j z)]; exact h j hj
theorem wipeS_wipeS {sl : List Sl} {vs ws : List Nat} (hv : ∀ i ∈ vs, i ∈ ws) : wipeS (wipeS sl vs) ws = wipeS sl ws := by
  apply List.ext_getElem?
  intro j
  by_cases q : j ∈ ws
  · by_cases hj : j < sl.length
    · have n1 : (wipeS (wipeS sl vs) ws)[j]? ≠ none := by rw [Ne, List.getElem?_eq_none_iff, wipeS_len, wipeS_len]; omega
      have n2 : (wipeS sl ws)[j]? ≠ none := by rw [Ne, List.getElem?_eq_none_iff, wipeS_len]; omega
      rw [(wipeS_in _ q).resolve_right n1, (wipeS_in _ q).resolve_right n2]
    · rw [List.getElem?_eq_none_iff.mpr (by rw [wipeS_len, wipeS_len]; omega), List.getElem?_eq_none_iff.mpr (by rw [wipeS_len]; omega)]
  · rw [wipeS_out _ q, wipeS_out _ q, wipeS_out _ fun z => q (hv j z)]
section
variable {X : Cx} {tg iter tg1 iter1 elt : Expr} {s0 s1 : List Sl} {items : List PyData} {pos : Pos} {scope : Scope} {own : List (Str × Nat)} {vs1 : List Nat}
theorem el_lc2 {yss : List (List PyData)} (hi : EvI X tg iter s0 s1 items) (ok : BlkOk X.N X.env.scope scope own) (hv : ∀ i ∈ vs1, i ∈ own.map (·.2)) (hlen : yss.length = items.length) (hsz : yss.flatten.length ≤ 100000)
    (turn : ∀ (i : Nat) (d : PyData) (ys : List PyData), items[i]? = some d → yss[i]? = some ys → ∃ (m : List Sl) (ts : List Nat) (m1 : List Sl) (items1 : List PyData) (M : Nat → List Sl) (ts1 : List Nat), (∀ j ∈ ts, j ∈ own.map (·.2)) ∧ (∀ j ∈ ts1, j ∈ vs1) ∧ wipeS m1 (own.map (·.2)) = wipeS s1 (own.map (·.2)) ∧
      (∀ j, wipeS (M j) vs1 = wipeS m1 vs1) ∧ ys.length = items1.length ∧
      ∀ (s : Shared) (H : Hp) (C : Addr) (cl : List (Str × Addr)) (fp : List Addr), Tg (Blk X scope s H C cl fp) tg (wipeS s1 (own.map (·.2))) d m ts ∧ EvI (Blk X scope s H C cl fp) tg1 iter1 m m1 items1 ∧
        ∀ (j : Nat) (d1 y : PyData), items1[j]? = some d1 → ys[j]? = some y → Tg (Blk X scope s H C cl fp) tg1 (wipeS m1 vs1) d1 (M j) ts1 ∧ Ev (Blk X scope s H C cl fp) elt (M j) (M j) y)
    (hN : X.N.Nodup) (hc : X.calm = true := by rfl) (hs : ∀ x, foldedSetIterable iter X.env x = pure x := by intro _; rfl) (hs1 : ∀ env x, foldedSetIterable iter1 env x = pure x := by intro _ _; rfl) :
    EvL X (.ListComp elt [⟨tg, iter, [], 0⟩, ⟨tg1, iter1, [], 0⟩] scope pos) s0 (wipeS s1 (own.map (·.2))) yss.flatten := .mk fun {G₀ H₀ G H σ} E Q q => by
  refine W.of (pe_lc2 (vs1 := vs1) (g := fun v σ H Q => ∀ (s : Shared) (H0 : Hp) (C : Addr) (cl : List (Str × Addr)) (fp : List Addr), WG (Blk X scope s H0 C cl fp) tg v σ H Q)
    (g1 := fun v σ H Q => ∀ (s : Shared) (H0 : Hp) (C : Addr) (cl : List (Str × Addr)) (fp : List Addr), WG (Blk X scope s H0 C cl fp) tg1 v σ H Q)
    (wi1 := fun σ H Q => ∀ (s : Shared) (H0 : Hp) (C : Addr) (cl : List (Str × Addr)) (fp : List Addr), WI (Blk X scope s H0 C cl fp) tg1 iter1 σ H Q)
    (te := fun σ H Q => ∀ (s : Shared) (H0 : Hp) (C : Addr) (cl : List (Str × Addr)) (fp : List Addr), W (Blk X scope s H0 C cl fp) elt σ H Q) (tt := tYes) (tt1 := tYes) hc hN pi_W ok hv
    (fun s H C cl fp => ⟨fun pins s' σ H' v u Q I r h => h s H C cl fp pins s' u I r⟩) (fun s H C cl fp => pts_nil)
    (fun s H C cl fp => ⟨fun pins s' σ H' R I h => h s H C cl fp pins s' I⟩) (fun s H C cl fp => ⟨fun pins s' σ H' v u Q I r h => h s H C cl fp pins s' u I r⟩) (fun s H C cl fp => pts_nil)
    (fun s H C cl fp => ⟨fun pins s' σ H' Q I h => h s H C cl fp pins s' I⟩) hs hs1) ?_
  refine hi E _ fun J G' H' E' g y D hD => ?_
  have h0D : H₀ D = none := E'.gw.h.back hD
  have g0D : G₀ D = none := (E'.gw.g.trans E'.s).back hD
  refine ⟨fun i m H => m = items.length - i ∧ i ≤ items.length ∧ ∃ H1 G1 acc, H = L2.upd H1 D (.lst acc) ∧ H1 D = none ∧ En X.K G₀ H₀ G1 H1 (wipe σ (own.map (·.2))) (wipeS s1 (own.map (·.2))) ∧ Ex G' G1 ∧ DdAll X.K G1 acc (yss.take i).flatten,
    ⟨items.length, by simp, Nat.zero_le _, H', G', [], rfl, hD, en_wipe E' _, Ex.refl _, .nil⟩, ?_⟩
  rintro i m H3 ⟨rfl, hil, H1, G1, acc, rfl, hD1, E1, g1, ra⟩
  have E1k := E1.keep (o := .lst acc) hD1
  by_cases hlt : i < items.length
  · obtain ⟨go, yd⟩ := (y i G1 _ g1 E1k.s).1 hlt
    refine .inr ⟨go, fun H => ∃ H1 G1 acc, H = L2.upd H1 D (.lst acc) ∧ H1 D = none ∧ En X.K G₀ H₀ G1 H1 (wipe σ (own.map (·.2))) (wipeS s1 (own.map (·.2))) ∧ Ex G' G1 ∧ DdAll X.K G1 acc (yss.take (i + 1)).flatten,
      fun H' p => ⟨items.length - (i + 1), by omega, rfl, hlt, p⟩, fun x H2 hy => ?_⟩
    obtain ⟨G2, d, hd, gw, r⟩ := yd x H2 hy
    have hyi : yss[i]? = some yss[i] := by simp [hlen, hlt]
    obtain ⟨m, ts, m1, items1, M, ts1, hts, hts1, hm1, hM, hl1, hb⟩ := turn i d yss[i] hd hyi
    have hfl : (yss.take (i + 1)).flatten = (yss.take i).flatten ++ yss[i] := by rw [take_more hyi, List.flatten_append]; simp
    intro s H0 C cl fp
    refine (hb s H0 C cl fp).1 (E1k.grow gw) r _ fun σ2 E3 hl2 hout => ?_
    have hw : wipe σ2 (own.map (·.2)) = wipe σ (own.map (·.2)) := wipe_eq (by rw [hl2, wipe_length]) fun j hj => by rw [hout j fun z => hj (hts j z), wipe_out hj]
    refine ⟨hw, ?_⟩
    simp only [tYes, if_true]
    intro s1' H01 C1 cl1 fp1
    refine (hb s1' H01 C1 cl1 fp1).2.1 E3 _ fun J1 G4 H4 E4 g4 y1 => ?_
    obtain ⟨H5, hD5, e5, E5⟩ := E4.unkeep h0D g0D
    refine ⟨fun j k H => k = items1.length - j ∧ j ≤ items1.length ∧ ∃ H1 G1 acc, H = L2.upd H1 D (.lst acc) ∧ H1 D = none ∧ En X.K G₀ H₀ G1 H1 (wipe σ2 vs1) (wipeS m1 vs1) ∧ Ex G4 G1 ∧ DdAll X.K G1 acc ((yss.take i).flatten ++ (yss[i]).take j),
      ⟨items1.length, by simp, Nat.zero_le _, H5, G4, acc, e5, hD5, en_wipe E5 _, Ex.refl _, by simpa using dpAll_mono (gw.g.trans g4) _ ra⟩, ?_⟩
    rintro j k H6 ⟨rfl, hjl, H7, G7, acc7, rfl, hD7, E7, g7, ra7⟩
    have E7k := E7.keep (o := .lst acc7) hD7
    by_cases hjt : j < items1.length
    · obtain ⟨go1, yd1⟩ := (y1 j G7 _ g7 E7k.s).1 hjt
      refine .inr ⟨go1, fun H => ∃ H1 G1 acc, H = L2.upd H1 D (.lst acc) ∧ H1 D = none ∧ En X.K G₀ H₀ G1 H1 (wipe σ2 vs1) (wipeS m1 vs1) ∧ Ex G4 G1 ∧ DdAll X.K G1 acc ((yss.take i).flatten ++ (yss[i]).take (j + 1)),
        fun H' p => ⟨items1.length - (j + 1), by omega, rfl, hjt, p⟩, fun x1 H8 hy1 => ?_⟩
      obtain ⟨G8, d1, hd1, gw8, r8⟩ := yd1 x1 H8 hy1
      have hyj : (yss[i])[j]? = some (yss[i])[j] := by simp [hl1, hjt]
      intro s2 H02 C2 cl2 fp2
      refine ((hb s2 H02 C2 cl2 fp2).2.2 j d1 _ hd1 hyj).1 (E7k.grow gw8) r8 _ fun σ3 E9 hl3 hout3 => ?_
      have hw3 : wipe σ3 vs1 = wipe σ2 vs1 := wipe_eq (by rw [hl3, wipe_length]) fun j' hj' => by rw [hout3 j' fun z => hj' (hts1 j' z), wipe_out hj']
      refine ⟨hw3, ?_⟩
      intro s' H0' C' cl' fp'
      refine ((hb s' H0' C' cl' fp').2.2 j d1 _ hd1 hyj).2 E9 _ fun v G10 H10 E10 g10 r10 => ?_
      obtain ⟨H11, hD11, e11, E11⟩ := E10.unkeep h0D g0D
      have ha : H10 D = some (.lst acc7) := by rw [e11]; exact upd_same
      refine ⟨acc7, ha, ?_, H11, G10, acc7 ++ [v], by rw [e11, upd_upd], hD11, ?_, (g7.trans gw8.g).trans g10, ?_⟩
      · rw [dpAll_len ra7]
        have h1 : ((yss.take i).flatten ++ (yss[i]).take j).length ≤ yss.flatten.length := by
          have h2 : yss.flatten = (yss.take i).flatten ++ (yss[i] ++ (yss.drop (i + 1)).flatten) := by
            have h3 : yss = yss.take i ++ yss[i] :: yss.drop (i + 1) := by simp
            conv => lhs; rw [h3]
            rw [List.flatten_append, List.flatten_cons]
          rw [h2, List.length_append, List.length_append, List.length_append, List.length_take]
          omega
        exact Nat.lt_of_le_of_lt (Nat.le_trans h1 hsz) (by decide)
      · rw [← hw3, ← hM j]
        exact en_wipe E11 _
      · rw [take_more hyj, ← List.append_assoc]
        exact dpAll_app (dpAll_mono (gw8.g.trans g10) _ ra7) (dpAll_one r10)
    · have e : j = items1.length := by omega
      subst e
      refine .inl ⟨(y1 _ G7 _ g7 E7k.s).2 rfl, H7, G7, acc7, rfl, hD7, ?_, ((g1.trans gw.g).trans g4).trans g7, ?_⟩
      · have h1 := en_wipe E7 (own.map (·.2))
        rw [wipeS_wipeS hv, hm1] at h1
        have h2 : wipe (wipe σ2 vs1) (own.map (·.2)) = wipe σ (own.map (·.2)) := wipe_wipe hv (by rw [hl2, wipe_length]) fun j hj => by rw [hout j fun z => hj (hts j z), wipe_out hj]
        rw [h2] at h1
        exact h1
      · rw [hfl]
        rw [← hl1, List.take_length] at ra7
        exact ra7
  · have e : i = items.length := by omega
    subst e
    refine .inl ⟨(y _ G1 _ g1 E1k.s).2 rfl, ?_⟩
    refine q D acc G1 H1 ?_ (g.trans g1) hD1 (by rw [← hlen, List.take_length] at ra; exact ra)
    have := en_unwipe E1
    rw [wipeS_idem] at this
    exact this
end
end Ewl

set_option maxRecDepth 100000
set_option maxHeartbeats 2000000
/-! Operations over data. -/
namespace Ewl
open PySem L2
section
variable {K : PySem.W.Frag} {i j : Int}
theorem rd_int {g : Int → Int → Int} : RD K (rI0 fun i j => .int (g i j)) (.int i) (.int j) (.int (g i j)) := .mk fun {G H v w} s a b Q q => by
  cases a; cases b; exact ⟨i, j, rfl, rfl, q _ G H (.refl s) (.int _)⟩
theorem rd_intC {C : Int → Int → Prop} {g : Int → Int → Int} (h : C i j) : RD K (rI C fun i j => .int (g i j)) (.int i) (.int j) (.int (g i j)) := .mk fun {G H v w} s a b Q q => by
  cases a; cases b; exact ⟨i, j, rfl, rfl, h, q _ G H (.refl s) (.int _)⟩
theorem rd_bool {g : Int → Int → Bool} : RD K (rI0 fun i j => .bl (g i j)) (.int i) (.int j) (.bool (g i j)) := .mk fun {G H v w} s a b Q q => by
  cases a; cases b; exact ⟨i, j, rfl, rfl, q _ G H (.refl s) (.bl _)⟩
theorem ru_int {g : Int → Int} : RU K (rU fun i => .int (g i)) (.int i) (.int (g i)) := .mk fun {G H v} s a Q q => by
  cases a; exact ⟨i, rfl, q _ G H (.refl s) (.int _)⟩
theorem rd_eqD {d e : PyData} (h1 : SeqAt.shaped d = true) (h2 : SeqAt.shaped e = true) : RD K (rEqD K) d e (.bool (PyData.eqv d e)) := .mk fun {G H v w} s a b Q q =>
  ⟨d, e, dd_dp d (dp_mono s d a), dd_dp e (dp_mono s e b), h1, h2, q _ G H (.refl s) (.bl _)⟩
theorem rd_neD {d e : PyData} (h1 : SeqAt.shaped d = true) (h2 : SeqAt.shaped e = true) : RD K (rNeD K) d e (.bool (!PyData.eqv d e)) := .mk fun {G H v w} s a b Q q =>
  ⟨d, e, dd_dp d (dp_mono s d a), dd_dp e (dp_mono s e b), h1, h2, q _ G H (.refl s) (.bl _)⟩
def isNone : PyData → Bool
  | .none => true
  | _ => false
theorem dp_isN {G : Hp} {v : V} : ∀ {d : PyData}, Dd K G v d → decide (v = V.non) = isNone d
  | .none, h => by cases h; rfl
  | .bool _, h => by cases h; rfl
  | .int _, h => by cases h; rfl
  | .str _, h => by cases h; rfl
  | .list _, h => by cases h; rfl
  | .tuple _, h => by cases h; rfl
  | .dict _, h => by cases h
theorem rd_isN {d : PyData} : RD K (fun x y H Q => y = .non ∧ Q (.bl (decide (x = .non))) H) d .none (.bool (isNone d)) := .mk fun {G H v w} s a b Q q => by
  cases b; exact ⟨rfl, q _ G H (.refl s) (by rw [dp_isN a]; exact .bl _)⟩
theorem rd_notN {d : PyData} : RD K (fun x y H Q => y = .non ∧ Q (.bl (!decide (x = .non))) H) d .none (.bool (!isNone d)) := .mk fun {G H v w} s a b Q q => by
  cases b; exact ⟨rfl, q _ G H (.refl s) (by rw [dp_isN a]; exact .bl _)⟩
theorem atI_dp {G : Hp} {vs : List V} {ds : List PyData} {d : PyData} (h : DdAll K G vs ds) (e : atI ds i = some d) : ∃ v, atI vs i = some v ∧ Dd K G v d := by
  unfold atI at e ⊢
  rw [dpAll_len h]
  cases q : ixN ds.length i with
  | none => rw [q] at e; cases e
  | some k =>
    rw [q] at e
    exact dpAll_get h e
theorem rd_ixL {ds : List PyData} {d : PyData} (h : atI ds i = some d) : RD K (rIxL K) (.list ds) (.int i) d := .mk fun {G H v w} s a b Q q => by
  cases b
  cases a with
  | lst sl r =>
    obtain ⟨v, e, rv⟩ := atI_dp r h
    exact ⟨_, _, i, v, rfl, rfl, ex_l s sl, e, q v G H (.refl s) rv⟩
theorem rd_ixT {ds : List PyData} {d : PyData} (h : atI ds i = some d) : RD K (rIxT K) (.tuple ds) (.int i) d := .mk fun {G H v w} s a b Q q => by
  cases b
  cases a with
  | tup sl r =>
    obtain ⟨v, e, rv⟩ := atI_dp r h
    exact ⟨_, _, i, v, rfl, rfl, SqT.of (s _ _ sl), e, q v G H (.refl s) rv⟩
theorem at_nat {α : Type} {xs : List α} {n : Nat} {v : α} (h : xs[n]? = some v) : atI xs (n : Int) = some v := atI_nat h
end

section
variable {X : Cx}
/-! ### calls -/
theorem rc_lenL {ds : List PyData} : RC X.K (fun xs H Q => ∃ p ys, xs = [.ref p] ∧ (SqL X.K H p ys ∨ SqT X.K H p ys) ∧ Q (.int ys.length) H) [.list ds] (.int ds.length) := .mk fun {G H vs} s a Q q => by
  cases a with
  | cons a r =>
    cases r
    cases a with
    | lst sl r => exact ⟨_, _, rfl, .inl (ex_l s sl), by rw [dpAll_len r]; exact q _ G H (.refl s) (.int _)⟩
theorem rc_lenT {ds : List PyData} : RC X.K (fun xs H Q => ∃ p ys, xs = [.ref p] ∧ (SqL X.K H p ys ∨ SqT X.K H p ys) ∧ Q (.int ys.length) H) [.tuple ds] (.int ds.length) := .mk fun {G H vs} s a Q q => by
  cases a with
  | cons a r =>
    cases r
    cases a with
    | tup sl r => exact ⟨_, _, rfl, .inr (SqT.of (s _ _ sl)), by rw [dpAll_len r]; exact q _ G H (.refl s) (.int _)⟩
theorem rc_tupL {ds : List PyData} : RC X.K (fun xs H Q => ∃ p ys, xs = [.ref p] ∧ ((SqL X.K H p ys ∧ ∀ l, H l = none → Q (.ref l) (L2.upd H l (.tup ys))) ∨ (SqT X.K H p ys ∧ Q (.ref p) H))) [.list ds] (.tuple ds) := .mk fun {G H vs} s a Q q => by
  cases a with
  | cons a r =>
    cases r
    cases a with
    | lst sl r => exact ⟨_, _, rfl, .inl ⟨ex_l s sl, fun l hl => q _ (L2.upd G l (.tup _)) _ (.new s hl) (.tup upd_same (dpAll_mono (Ex.new (s.back hl)) _ r))⟩⟩
theorem rcl_listT {ds : List PyData} : RCL X.K (fun xs H Q => ∃ p ys, xs = [.ref p] ∧ (SqL X.K H p ys ∨ SqT X.K H p ys) ∧ ∀ l, H l = none → Q (.ref l) (L2.upd H l (.lst ys))) [.tuple ds] ds := .mk fun {G H vs} s a Q q => by
  cases a with
  | cons a r =>
    cases r
    cases a with
    | tup sl r => exact ⟨_, _, rfl, .inr (SqT.of (s _ _ sl)), fun l hl => q l _ hl r⟩
theorem rcl_listL {ds : List PyData} : RCL X.K (fun xs H Q => ∃ p ys, xs = [.ref p] ∧ (SqL X.K H p ys ∨ SqT X.K H p ys) ∧ ∀ l, H l = none → Q (.ref l) (L2.upd H l (.lst ys))) [.list ds] ds := .mk fun {G H vs} s a Q q => by
  cases a with
  | cons a r =>
    cases r
    cases a with
    | lst sl r => exact ⟨_, _, rfl, .inl (ex_l s sl), fun l hl => q l _ hl r⟩
theorem rc_abs {i : Int} : RC X.K (fun xs H Q => ∃ i, xs = [.int i] ∧ Q (.int (if i < 0 then -i else i)) H) [.int i] (.int (if i < 0 then -i else i)) := .mk fun {G H vs} s a Q q => by
  cases a with
  | cons a r => cases r; cases a; exact ⟨i, rfl, q _ G H (.refl s) (.int _)⟩
theorem rc_intB {b : Bool} : RC X.K (fun xs H Q => (∃ i, xs = [.int i] ∧ Q (.int i) H) ∨ ∃ k, xs = [.bl k] ∧ Q (.int (if k then 1 else 0)) H) [.bool b] (.int (if b then 1 else 0)) := .mk fun {G H vs} s a Q q => by
  cases a with
  | cons a r => cases r; cases a; exact .inr ⟨b, rfl, q _ G H (.refl s) (.int _)⟩
theorem rc_gcd {i j : Int} : RC X.K rGcd [.int i, .int j] (.int ((Nat.gcd i.natAbs j.natAbs : Nat) : Int)) := .mk fun {G H vs} s a Q q => by
  cases a with
  | cons a r => cases r with
    | cons b r => cases r; cases a; cases b; exact ⟨i, j, rfl, q _ G H (.refl s) (.int _)⟩
/-- sum of a list, of a tuple of ints -/
theorem rc_sumL {ns : List Int} : RC X.K (rSum X.K) [.list (ns.map .int)] (.int ns.sum) := .mk fun {G H vs} s a Q q => by
  cases a with
  | cons a r =>
    cases r
    cases a with
    | lst sl r => exact ⟨_, ns, rfl, by rw [← dpAll_ints' r]; exact ex_l s sl, q _ G H (.refl s) (.int _)⟩
def rSumT (K : PySem.W.Frag) : List V → Hp → VK → Prop := fun vs H Q => ∃ (a : Addr) (ns : List Int), vs = [V.ref a] ∧ SqT K H a (ns.map V.int) ∧ Q (.int ns.sum) H
theorem cr_sumT (hc : X.calm = true) : CallR X (.builtin "sum") (rSumT X.K) := by
  intro pins s σ H vs us Q I r h
  obtain ⟨a, ns, rfl, hs, q⟩ := h
  obtain ⟨its, rv, hl, _⟩ := I.tuple hs
  rw [Vals.ref1 r]
  obtain ⟨xs, e⟩ := rv.ints.allInts.items
  have hn : numsOf (intItems xs).toList = ns := by rw [← e]; exact rv.ints.numsOf
  rw [nums_intItems] at hn
  rw [e] at hl
  refine PySem.W.ktm_sumG (I.ok.hd hc) hl fun h' tk t' hk => ?_
  rw [preSum_eq, List.take_of_length_le (by simp), hn]
  exact ⟨.int _, H, I.kept hk, ⟨_, rfl⟩, q⟩
theorem rc_sumT {ns : List Int} : RC X.K (rSumT X.K) [.tuple (ns.map .int)] (.int ns.sum) := .mk fun {G H vs} s a Q q => by
  cases a with
  | cons a r =>
    cases r
    cases a with
    | tup sl r => exact ⟨_, ns, rfl, by rw [← dpAll_ints' r]; exact SqT.of (s _ _ sl), q _ G H (.refl s) (.int _)⟩
/-- min of three ints -/
def rMin3 : List V → Hp → VK → Prop := fun vs H Q => ∃ a b c : Int, vs = [.int a, .int b, .int c] ∧ Q (.int (min a (min b c))) H
theorem cr_min3 (hc : X.calm = true) : CallR X (.builtin "min") rMin3 := by
  intro pins s σ H vs us Q I r h
  obtain ⟨a, b, c, rfl, q⟩ := h
  cases r with
  | cons r1 r =>
    cases r with
    | cons r2 r =>
      cases r with
      | cons r3 r =>
        cases r
        obtain ⟨t1, rfl⟩ := r1
        obtain ⟨t2, rfl⟩ := r2
        obtain ⟨t3, rfl⟩ := r3
        refine min_three_ints (I.ok.hd hc) fun h' tk hk => ?_
        refine ⟨.int (min a (min b c)), H, I.kept hk, ?_, q⟩
        by_cases h1 : b < a
        · by_cases h2 : c < b
          · rw [if_pos h1, if_pos h2]; exact ⟨t3, by rw [show min a (min b c) = c by omega]⟩
          · rw [if_pos h1, if_neg h2]; exact ⟨t2, by rw [show min a (min b c) = b by omega]⟩
        · by_cases h2 : c < a
          · rw [if_neg h1, if_pos h2]; exact ⟨t3, by rw [show min a (min b c) = c by omega]⟩
          · rw [if_neg h1, if_neg h2]; exact ⟨t1, by rw [show min a (min b c) = a by omega]⟩
theorem rc_min3 {a b c : Int} : RC X.K rMin3 [.int a, .int b, .int c] (.int (min a (min b c))) := .mk fun {G H vs} s x Q q => by
  cases x with
  | cons x r => cases r with
    | cons y r => cases r with
      | cons z r => cases r; cases x; cases y; cases z; exact ⟨a, b, c, rfl, q _ G H (.refl s) (.int _)⟩
/-! ### order of data -/
def rLtD (K : PySem.W.Frag) (f : PyData → PyData → Bool) : R2 := fun x y H Q => ∃ d e, Dd K H x d ∧ Dd K H y e ∧ PySem.W.alike d e = true ∧ d ≠ .none ∧ min d.depth e.depth ≤ 8 ∧ Q (.bl (f d e)) H
theorem op_ltD (hu : X.A.units + 64 < cLine) : OpR X (compareOp .Lt) (rLtD X.K fun d e => PySem.W.dataLt d e) := by
  intro pins s σ H x y v u Q I rx ry h
  obtain ⟨d, e, hd, he, ha, hn, hz, q⟩ := h
  obtain ⟨as, r1⟩ := ddReads I d x v hd rx
  obtain ⟨bs, r2⟩ := ddReads I e y u he ry
  exact PySem.W.lt_data r1 r2 ha hn (by omega) ⟨.bl _, H, I, rfl, q⟩
theorem op_leD (hu : X.A.units + 64 < cLine) : OpR X (compareOp .LtE) (rLtD X.K fun d e => !PySem.W.dataLt e d) := by
  intro pins s σ H x y v u Q I rx ry h
  obtain ⟨d, e, hd, he, ha, hn, hz, q⟩ := h
  obtain ⟨as, r1⟩ := ddReads I d x v hd rx
  obtain ⟨bs, r2⟩ := ddReads I e y u he ry
  exact PySem.W.le_data r1 r2 ha hn (by omega) ⟨.bl _, H, I, rfl, q⟩
theorem op_geD (hu : X.A.units + 64 < cLine) : OpR X (compareOp .GtE) (rLtD X.K fun d e => !PySem.W.dataLt d e) := by
  intro pins s σ H x y v u Q I rx ry h
  obtain ⟨d, e, hd, he, ha, hn, hz, q⟩ := h
  obtain ⟨as, r1⟩ := ddReads I d x v hd rx
  obtain ⟨bs, r2⟩ := ddReads I e y u he ry
  exact PySem.W.ge_data r1 r2 ha hn (by omega) ⟨.bl _, H, I, rfl, q⟩
theorem rd_ord {K : PySem.W.Frag} {f : PyData → PyData → Bool} {d e : PyData} (ha : PySem.W.alike d e = true) (hn : d ≠ .none) (hz : min d.depth e.depth ≤ 8) : RD K (rLtD K f) d e (.bool (f d e)) := .mk fun {G H v w} s a b Q q =>
  ⟨d, e, dp_mono s d a, dp_mono s e b, ha, hn, hz, q _ G H (.refl s) (.bl _)⟩
end
end Ewl

set_option maxRecDepth 100000
set_option maxHeartbeats 2000000
/-! min and max of two data. -/
namespace Ewl
open PySem L2
section
variable {prog : Program} {w : World} {A : Around} {E : Value → Shared → Prop} {s : Shared}
theorem reads2 {h : Heap} {a b : Value} {x y : PyData} {as bs : List Addr} (ra : Reads h a x as) (rb : Reads h b y bs) : ∃ cs, ReadsAll h (#[a, b] : Array Value).toList [x, y] cs := ⟨_, .cons ra (.cons rb .nil)⟩
theorem min_two_data {a b : Value} {x y : PyData} {as bs : List Addr} {Q : Value → Shared → Prop} (hh : A.handled = none) (ra : Reads s.heap a x as) (rb : Reads s.heap b y bs) (ha : PySem.W.AlikeAll [x, y]) (hu : A.units + 1 + PyData.depthAll [x, y] < cLine)
    (h : ∀ h' tk, (∀ b o, s.heap.get? b = some o → h'.get? b = some o) → Q (if PySem.W.dataLt y x = true then b else a) { s with heap := h', toks := tk }) : wpAny (model prog w) A (call (.builtin "min") [a, b]) Q E s := by
  have hname : (toString "min" ++ toString ".loop" : String) = "min.loop" := by decide
  refine call_function_tree F.kind_min F.plain_min F.entry_min (F.args_min2 _ _) ?_
  show wpAny _ A.in1 (Builtin.Builtins.bindParams "min" ["key", "default"] 0 ⟨[], []⟩ >>= _) _ _ s
  refine wpAny_bind (wpAny_of_eq (show Builtin.Builtins.bindParams "min" ["key", "default"] 0 ⟨[], []⟩ = pure [none, none] from rfl) ?_)
  show wpAny _ A.in1 (newTuple [a, b] >>= _) _ _ s
  refine wpAny_bind (wpAny_newObj_type ?_)
  have hT : (s.heap.push { cls := .type "tuple", data := .seq #[a, b] }).IsTuple s.heap.objs.size #[a, b] := ⟨_, Heap.get?_push_size _ rfl, rfl, 0, rfl⟩
  have kp : ∀ c o, s.heap.get? c = some o → (s.heap.push { cls := .type "tuple", data := .seq #[a, b] }).get? c = some o := fun c o e => Heap.get?_push_of_some _ e
  have hR : ∃ cs, ReadsAll (s.heap.push { cls := .type "tuple", data := .seq #[a, b] }) (#[a, b] : Array Value).toList [x, y] cs := reads2 (PySem.W.reads_keeps kp ra) (PySem.W.reads_keeps kp rb)
  obtain ⟨cs, hr⟩ := hR
  refine wpAny_bind (PySem.W.iter_tupleW (s := { s with heap := s.heap.push { cls := .type "tuple", data := .seq #[a, b] } }) (A := A.in1) hh hT fun s₂ e W st hfp hw hk => ?_)
  have hsz : (#[a, b] : Array Value).size = 2 := rfl
  rw [hsz] at W
  refine wpAny_bind (wpAny_newObj_type ?_)
  have hSf : s₂.heap.objs.size ∉ [(s.heap.push { cls := .type "tuple", data := .seq #[a, b] }).objs.size, s.heap.objs.size] := fun hm => Nat.lt_irrefl _ (hfp _ hm)
  rw [hname]
  refine wpAny_pure ⟨plainId_quiet F.plain_min_loop _, codeAny_min_loop_firstH W _ hw _ (PySem.W.cmpIn_lt (s := { s with heap := s.heap.push { cls := .type "tuple", data := .seq #[a, b] } }) (A := A.in1) hr ha (by show A.units + 1 + _ < _; exact hu)) s₂.heap.objs.size hSf (fresh_in hk) _ (by decide) (fun c o e => Heap.get?_push_of_some _ (hk c o e)) (W.frame 0 s₂ _ s₂.toks st (Nat.le_refl _) fun c _ o e => Heap.get?_push_of_some _ e) (Heap.get?_push_size _ rfl) fun v s' hP hm => ?_⟩
  have hm2 := Moved.drop_new (tk := s₂.toks) hm (Nat.le_refl _)
  obtain ⟨h', tk, rfl, hk'⟩ := PySem.W.moved_old (s := { s with heap := s.heap.push { cls := .type "tuple", data := .seq #[a, b] } }) e rfl hm2
  have q := h h' tk fun c o e => hk' c o (kp c o e)
  have e1 : v = if PySem.W.dataLt y x = true then b else a := by
    have hP' : (#[a, b] : Array Value)[argBest (fun i j => PySem.W.dataLt (([x, y] : List PyData).getD i .none) (([x, y] : List PyData).getD j .none)) 1]? = some v := hP
    by_cases c : PySem.W.dataLt y x = true
    · have e2 : argBest (fun i j => PySem.W.dataLt (([x, y] : List PyData).getD i .none) (([x, y] : List PyData).getD j .none)) 1 = 1 := by simp [argBest, c]
      rw [e2] at hP'
      rw [if_pos c]
      simpa using hP'.symm
    · have e2 : argBest (fun i j => PySem.W.dataLt (([x, y] : List PyData).getD i .none) (([x, y] : List PyData).getD j .none)) 1 = 0 := by simp [argBest, c]
      rw [e2] at hP'
      rw [if_neg c]
      simpa using hP'.symm
  rw [e1]
  exact q
theorem max_two_data {a b : Value} {x y : PyData} {as bs : List Addr} {Q : Value → Shared → Prop} (hh : A.handled = none) (ra : Reads s.heap a x as) (rb : Reads s.heap b y bs) (ha : PySem.W.AlikeAll [x, y]) (hu : A.units + 1 + PyData.depthAll [x, y] < cLine)
    (h : ∀ h' tk, (∀ b o, s.heap.get? b = some o → h'.get? b = some o) → Q (if PySem.W.dataLt x y = true then b else a) { s with heap := h', toks := tk }) : wpAny (model prog w) A (call (.builtin "max") [a, b]) Q E s := by
  have hname : (toString "max" ++ toString ".loop" : String) = "max.loop" := by decide
  refine call_function_tree F.kind_max F.plain_max F.entry_max (F.args_max2 _ _) ?_
  show wpAny _ A.in1 (Builtin.Builtins.bindParams "max" ["key", "default"] 0 ⟨[], []⟩ >>= _) _ _ s
  refine wpAny_bind (wpAny_of_eq (show Builtin.Builtins.bindParams "max" ["key", "default"] 0 ⟨[], []⟩ = pure [none, none] from rfl) ?_)
  show wpAny _ A.in1 (newTuple [a, b] >>= _) _ _ s
  refine wpAny_bind (wpAny_newObj_type ?_)
  have hT : (s.heap.push { cls := .type "tuple", data := .seq #[a, b] }).IsTuple s.heap.objs.size #[a, b] := ⟨_, Heap.get?_push_size _ rfl, rfl, 0, rfl⟩
  have kp : ∀ c o, s.heap.get? c = some o → (s.heap.push { cls := .type "tuple", data := .seq #[a, b] }).get? c = some o := fun c o e => Heap.get?_push_of_some _ e
  have hR : ∃ cs, ReadsAll (s.heap.push { cls := .type "tuple", data := .seq #[a, b] }) (#[a, b] : Array Value).toList [x, y] cs := reads2 (PySem.W.reads_keeps kp ra) (PySem.W.reads_keeps kp rb)
  obtain ⟨cs, hr⟩ := hR
  refine wpAny_bind (PySem.W.iter_tupleW (s := { s with heap := s.heap.push { cls := .type "tuple", data := .seq #[a, b] } }) (A := A.in1) hh hT fun s₂ e W st hfp hw hk => ?_)
  have hsz : (#[a, b] : Array Value).size = 2 := rfl
  rw [hsz] at W
  refine wpAny_bind (wpAny_newObj_type ?_)
  have hSf : s₂.heap.objs.size ∉ [(s.heap.push { cls := .type "tuple", data := .seq #[a, b] }).objs.size, s.heap.objs.size] := fun hm => Nat.lt_irrefl _ (hfp _ hm)
  rw [hname]
  refine wpAny_pure ⟨plainId_quiet F.plain_max_loop _, codeAny_max_loop_firstH W _ hw _ (PySem.W.cmpIn_gt (s := { s with heap := s.heap.push { cls := .type "tuple", data := .seq #[a, b] } }) (A := A.in1) hr ha (by show A.units + 1 + _ < _; exact hu)) s₂.heap.objs.size hSf (fresh_in hk) _ (by decide) (fun c o e => Heap.get?_push_of_some _ (hk c o e)) (W.frame 0 s₂ _ s₂.toks st (Nat.le_refl _) fun c _ o e => Heap.get?_push_of_some _ e) (Heap.get?_push_size _ rfl) fun v s' hP hm => ?_⟩
  have hm2 := Moved.drop_new (tk := s₂.toks) hm (Nat.le_refl _)
  obtain ⟨h', tk, rfl, hk'⟩ := PySem.W.moved_old (s := { s with heap := s.heap.push { cls := .type "tuple", data := .seq #[a, b] } }) e rfl hm2
  have q := h h' tk fun c o e => hk' c o (kp c o e)
  have e1 : v = if PySem.W.dataLt x y = true then b else a := by
    have hP' : (#[a, b] : Array Value)[argBest (fun i j => PySem.W.dataLt (([x, y] : List PyData).getD j .none) (([x, y] : List PyData).getD i .none)) 1]? = some v := hP
    by_cases c : PySem.W.dataLt x y = true
    · have e2 : argBest (fun i j => PySem.W.dataLt (([x, y] : List PyData).getD j .none) (([x, y] : List PyData).getD i .none)) 1 = 1 := by simp [argBest, c]
      rw [e2] at hP'
      rw [if_pos c]
      simpa using hP'.symm
    · have e2 : argBest (fun i j => PySem.W.dataLt (([x, y] : List PyData).getD j .none) (([x, y] : List PyData).getD i .none)) 1 = 0 := by simp [argBest, c]
      rw [e2] at hP'
      rw [if_neg c]
      simpa using hP'.symm
  rw [e1]
  exact q
end
section
variable {X : Cx}
def rMin2D (K : PySem.W.Frag) : List V → Hp → VK → Prop := fun vs H Q => ∃ (v u : V) (x y : PyData), vs = [v, u] ∧ Dd K H v x ∧ Dd K H u y ∧ PySem.W.AlikeAll [x, y] ∧ PyData.depthAll [x, y] ≤ 8 ∧ Q (if PySem.W.dataLt y x = true then u else v) H
def rMax2D (K : PySem.W.Frag) : List V → Hp → VK → Prop := fun vs H Q => ∃ (v u : V) (x y : PyData), vs = [v, u] ∧ Dd K H v x ∧ Dd K H u y ∧ PySem.W.AlikeAll [x, y] ∧ PyData.depthAll [x, y] ≤ 8 ∧ Q (if PySem.W.dataLt x y = true then u else v) H
theorem cr_min2D (hc : X.calm = true) (hu : X.A.units + 64 < cLine) : CallR X (.builtin "min") (rMin2D X.K) := by
  intro pins s σ H vs us Q I r h
  obtain ⟨v, u, x, y, rfl, hx, hy, ha, hz, q⟩ := h
  obtain ⟨a, b, rfl, r1, r2⟩ := vals2 r
  obtain ⟨as, q1⟩ := ddReads I x v a hx r1
  obtain ⟨bs, q2⟩ := ddReads I y u b hy r2
  refine min_two_data (I.ok.hd hc) q1 q2 ha (by omega) fun h' tk hk => ⟨_, H, I.kept hk, ?_, q⟩
  by_cases c : PySem.W.dataLt y x = true
  · rw [if_pos c, if_pos c]; exact r2
  · rw [if_neg c, if_neg c]; exact r1
theorem cr_max2D (hc : X.calm = true) (hu : X.A.units + 64 < cLine) : CallR X (.builtin "max") (rMax2D X.K) := by
  intro pins s σ H vs us Q I r h
  obtain ⟨v, u, x, y, rfl, hx, hy, ha, hz, q⟩ := h
  obtain ⟨a, b, rfl, r1, r2⟩ := vals2 r
  obtain ⟨as, q1⟩ := ddReads I x v a hx r1
  obtain ⟨bs, q2⟩ := ddReads I y u b hy r2
  refine max_two_data (I.ok.hd hc) q1 q2 ha (by omega) fun h' tk hk => ⟨_, H, I.kept hk, ?_, q⟩
  by_cases c : PySem.W.dataLt x y = true
  · rw [if_pos c, if_pos c]; exact r2
  · rw [if_neg c, if_neg c]; exact r1
theorem rc_min2 {x y : PyData} (ha : PySem.W.AlikeAll [x, y]) (hz : PyData.depthAll [x, y] ≤ 8) : RC X.K (rMin2D X.K) [x, y] (if PySem.W.dataLt y x = true then y else x) := .mk fun {G H vs} s a Q q => by
  cases a with
  | cons a r => cases r with
    | cons b r =>
      cases r
      refine ⟨_, _, x, y, rfl, dp_mono s x a, dp_mono s y b, ha, hz, q _ G H (.refl s) ?_⟩
      by_cases c : PySem.W.dataLt y x = true
      · rw [if_pos c, if_pos c]; exact b
      · rw [if_neg c, if_neg c]; exact a
theorem rc_max2 {x y : PyData} (ha : PySem.W.AlikeAll [x, y]) (hz : PyData.depthAll [x, y] ≤ 8) : RC X.K (rMax2D X.K) [x, y] (if PySem.W.dataLt x y = true then y else x) := .mk fun {G H vs} s a Q q => by
  cases a with
  | cons a r => cases r with
    | cons b r =>
      cases r
      refine ⟨_, _, x, y, rfl, dp_mono s x a, dp_mono s y b, ha, hz, q _ G H (.refl s) ?_⟩
      by_cases c : PySem.W.dataLt x y = true
      · rw [if_pos c, if_pos c]; exact b
      · rw [if_neg c, if_neg c]; exact a
end
end Ewl

set_option maxRecDepth 100000
set_option maxHeartbeats 2000000
/-! sorted over data; types; lists repeated, joined. -/
namespace Ewl
open PySem L2
section
variable {X : Cx}
def srtD (ds : List PyData) : List PyData := ds.mergeSort (PySem.W.dataLe false fun d => d)
def rSortedD (K : PySem.W.Frag) : List V → Hp → VK → Prop := fun vs H Q => ∃ (G : Hp) (a : Addr) (xs : List V) (ds : List PyData), Ex G H ∧ vs = [V.ref a] ∧ SqL K H a xs ∧ DdAll K G xs ds ∧ PySem.W.AllAlike ds ∧ PySem.W.Sortable ds ∧ (∀ d ∈ ds, d.depth ≤ 8) ∧
  ∀ (p : Addr) (zs : List V), H p = none → DdAll K G zs (srtD ds) → Q (.ref p) (L2.upd H p (.lst zs))
def IsV (K : PySem.W.Frag) (H : Hp) (v : Value) (d : PyData) : Prop := ∃ x, RelV x v ∧ Dd K H x d
theorem each_of {K : PySem.W.Frag} {H : Hp} : ∀ {xs : List V} {ds : List PyData} {us : List Value}, DdAll K H xs ds → Vals xs us → PySem.W.EachIs (IsV K H) us ds
  | _, _, _, .nil, .nil => .nil
  | _, _, _, .cons h t, .cons r rr => .cons ⟨_, r, h⟩ (each_of t rr)
theorem of_each {K : PySem.W.Frag} {H : Hp} : ∀ {us : List Value} {ds : List PyData}, PySem.W.EachIs (IsV K H) us ds → ∃ xs, Vals xs us ∧ DdAll K H xs ds
  | _, _, .nil => ⟨[], .nil, .nil⟩
  | _, _, .cons ⟨x, r, h⟩ t => by
    obtain ⟨xs, h1, h2⟩ := of_each t
    exact ⟨x :: xs, .cons r h1, .cons h h2⟩
theorem cr_sortedD (hu : X.A.units + 64 < cLine) : CallR X (.builtin "sorted") (rSortedD X.K) := by
  intro pins s σ H vs us Q I r h
  obtain ⟨G, a, xs, ds, gs, rfl, hs, hd, hal, hk, hz, q⟩ := h
  obtain ⟨its, rv, hl, hL⟩ := I.list hs
  rw [Vals.ref1 r]
  have e1 : PySem.W.EachIs (IsV X.K G) its ds := each_of hd rv
  have e2 : PySem.W.EachIs (fun v b => ∃ as, Reads s.heap v b as) its ds := e1.mono fun v d ⟨x, r, h⟩ => ddReads I d x v (dp_mono gs d h) r
  have hlen : ds.length = xs.length := (dpAll_len hd).symm
  have em : ds.map (fun d => d) = ds := List.map_id' ds
  refine PySem.W.sorted_data (enc := fun d => d) hl.isList e1 e2 (by rw [em]; exact hal) (by rw [em]; exact hk) (by rw [hlen]; exact hL) (fun b hb => by have := hz b hb; omega) fun out ho eo => ?_
  obtain ⟨zs, hv, hz2⟩ := of_each eo
  obtain ⟨ep, he'⟩ := PyProof.Rows.sortedAll_at s.heap its out.toArray
  have hlz : zs.length ≤ sizeLine := by rw [hv.length, ho, hlen]; exact hL
  refine ⟨.ref _, L2.upd H (s.heap.objs.size + 1) (.lst zs), I.laid (t' := s.toks) (fun _ _ => PyProof.Rows.sortedAll_old) (Nat.le_succ _) ⟨hlz, out, ep, hv, ?_⟩, rfl, q _ zs (I.hok.fresh (Nat.le_succ _)) hz2⟩
  exact he'
theorem rcl_sorted {ds : List PyData} (hal : PySem.W.AllAlike ds) (hk : PySem.W.Sortable ds) (hz : ∀ d ∈ ds, d.depth ≤ 8) : RCL X.K (rSortedD X.K) [.list ds] (srtD ds) := .mk fun {G H vs} s a Q q => by
  cases a with
  | cons a r =>
    cases r
    cases a with
    | lst sl r => exact ⟨G, _, _, ds, s, rfl, ex_l s sl, r, hal, hk, hz, fun p zs hp h => q p zs hp h⟩
/-! ### type(x) == T -/
def tyD : PyData → String
  | .none => "NoneType"
  | .bool _ => "bool"
  | .int _ => "int"
  | .str _ => "str"
  | .list _ => "list"
  | .tuple _ => "tuple"
  | .dict _ => "dict"
theorem ty_in (d : PyData) : tyD d ∈ ["NoneType", "bool", "int", "str", "list", "tuple", "dict"] := by
  cases d <;> simp [tyD]
theorem tyD_is {pins : List (Addr × Obj)} {σ : L2.St} {H : Hp} {s : Shared} {v : V} {u : Value} (I : L2.Inv X pins σ H s) (r : RelV v u) : ∀ {d : PyData}, Dd X.K H v d → s.TypeIs u (tyD d)
  | .none, h => by cases h; cases r; exact typeIs_none s
  | .bool b, h => by cases h; cases r; exact typeIs_bool s b
  | .int i, h => by cases h; obtain ⟨t, rfl⟩ := r; exact typeIs_int s i t
  | .str i, h => by cases h; obtain ⟨t, rfl⟩ := r; exact typeIs_str s i t
  | .list _, h => by
    cases h with
    | lst e _ => cases r; obtain ⟨its, rv, p, _⟩ := I.list e; exact p.isList.typeIs
  | .tuple _, h => by
    cases h with
    | tup e _ => cases r; obtain ⟨its, rv, p, _⟩ := I.tuple (SqT.of e); exact p.typeIs
  | .dict _, h => by cases h
theorem type_beq {S T : String} (h : S ≠ T) : (Value.type S == Value.type T) = false := by
  rw [beq_eq_false_iff_ne]
  intro e
  injection e with e
  exact h e
def rTyD (K : PySem.W.Frag) : List V → Hp → VK → Prop := fun xs H Q => ∃ (x : V) (d : PyData), xs = [x] ∧ Dd K H x d ∧ Q (.ty (tyD d)) H
theorem call_tyD : CallR X (.type "type") (rTyD X.K) := by
  intro pins s σ H xs us Q I r h
  obtain ⟨x, d, rfl, hd, q⟩ := h
  obtain ⟨u, rfl, rx⟩ := vals1 r
  exact call_type_of (tyD_is I rx hd) (type_beq (by cases d <;> simp [tyD])) ⟨.ty (tyD d), H, I, rfl, q⟩
abbrev tyL : List String := ["NoneType", "bool", "int", "str", "list", "tuple", "dict"]
theorem ty_meta {T : String} (h : T ∈ tyL) (s : Shared) : s.TypeIs (.type T) "type" := by
  simp only [tyL, List.mem_cons, List.not_mem_nil, or_false] at h
  rcases h with rfl | rfl | rfl | rfl | rfl | rfl | rfl
  · exact TypeEq.meta_NoneType s
  · exact TypeEq.meta_bool s
  · exact TypeEq.meta_int s
  · exact TypeEq.meta_str s
  · exact TypeEq.meta_list s
  · exact TypeEq.meta_tuple s
  · exact TypeEq.meta_dict s
def rTyEq : R2 := fun x y H Q => ∃ S T, x = .ty S ∧ y = .ty T ∧ S ∈ tyL ∧ T ∈ tyL ∧ Q (.bl (decide (S = T))) H
theorem op_tyEq : OpR X (compareOp .Eq) rTyEq := by
  intro pins s σ H x y v u Q I rx ry h
  obtain ⟨S, T, rfl, rfl, h1, h2, q⟩ := h
  cases rx
  cases ry
  by_cases e : S = T
  · subst e
    exact TypeEq.eq_type_same (ty_meta h1) ⟨.bl true, H, I, rfl, by simpa using q⟩
  · exact TypeEq.eq_type_other (ty_meta h1) (ty_meta h2) (type_beq e) ⟨.bl false, H, I, rfl, by simpa [e] using q⟩
theorem slot_type_ne : Slot "type" (cmpInfo .NotEq).2.1 "object.__ne__" :=
  .of (owner := "object") (n := "__ne__") (by rw [typeLookup_type, builtinLookup_eq_fast]; kernel_rfl) (by decide +kernel) (by decide +kernel) (by decide +kernel)
    (by first | exact .inl (by decide +kernel) | exact .inr (by decide +kernel)) (by rw [isSubtype_type]; kernel_rfl)
theorem ne_type_same {prog : Program} {w : World} {A : Around} {E : Value → Shared → Prop} {s : Shared} {Q : Value → Shared → Prop} {T : String} (hT : ∀ s' : Shared, s'.TypeIs (.type T) "type") (h : Q (.bool false) s) : wpAny (model prog w) A (compareOp .NotEq (.type T) (.type T)) Q E s := by
  show wpAny _ A (richCompare .NotEq _ _) Q E s
  refine wpAny_richCompare_same (op := .NotEq) (T := "type") (hT s) (hT s) slot_type_ne (wpAny_call_entry slot_type_ne (hT s) F.entry_object_ne ?_ (F.args_object_ne_2 _ _))
  unfold Builtin.«object.__ne__»
  have hs : Slot "type" (Str.ofString "__eq__") "object.__eq__" := TypeEq.slot_type_eq
  repeat (first | (with_reducible refine wpAny_cRoomFor_byValue (by rfl) ?_) | (with_reducible refine wpAny_callSpecialIfBound?_slot (hT _) hs ?_) | (with_reducible refine call_gives hs (hT _) F.entry_object_eq (F.args_object_eq_2 _ _) (TypeEq.object_eq_same (a := .type T) (b := .type T) rfl (by simp)) ?_) | wp_step)
  show wpAny (model prog w) A.in1 (truthy (.bool true) >>= fun c => ret (.bool !c)) _ E s
  refine wpAny_bind (wpAny_truthy_bool ?_)
  exact wpAny_pure ⟨_, rfl, (by intro e; cases e), h⟩
/-- the two sides are one type -/
def rTyNeS : R2 := fun x y H Q => ∃ S, x = .ty S ∧ y = .ty S ∧ S ∈ tyL ∧ Q (.bl false) H
theorem op_tyNeS : OpR X (compareOp .NotEq) rTyNeS := by
  intro pins s σ H x y v u Q I rx ry h
  obtain ⟨S, rfl, rfl, h1, q⟩ := h
  cases rx
  cases ry
  exact ne_type_same (ty_meta h1) ⟨.bl false, H, I, rfl, q⟩
variable {e : Expr} {s0 s1 : List Sl} {d : PyData} {p p2 p3 pos : Pos}
theorem ev_tyEq {x : Str} {T : String} (h : Ev X e s0 s1 d) (hm : X.mg "type" = none) (hmT : X.mg x = none) (hT : T ∈ tyL := by decide) (hv : bootBuiltins x = some (.type T) := by decide +kernel) (hg : Gl X "type" := by rfl) (hgT : Gl X x := by rfl) (hn : x ≠ "__name__" := by decide) (hdb : (x == ("__debug__" : Str)) = false := by decide)
    (he : starEach [e] X.env = (false, eval e X.env) :: starEach [] X.env := by rfl) (hpl : (backTo p2 (starEach [] X.env)).any (·.1) = false := by rfl) : Ev X (.Compare (.Call (.Name "type" p) [e] [] p2) [.Eq] [.Name x p3] pos) s0 s1 (.bool (decide (tyD d = T))) := .mk fun E Q q =>
  W.of (pe_cmpR op_tyEq (pe_callTy call_tyD hg hm (by decide +kernel) (pa_cons pe_W pa_nil he) (by decide) (by decide) he hpl) (pe_bltn (v := .ty T) hgT hmT hv rfl hn hdb) (nomark _))
    (h E _ fun v G' H' E' g r => ⟨v, d, rfl, dp_mono E'.s d r, tyD d, T, rfl, rfl, ty_in d, hT, q _ G' H' E' g (.bl _)⟩)
theorem et_tyEq {x : Str} {T : String} (h : Ev X e s0 s1 d) (hm : X.mg "type" = none) (hmT : X.mg x = none) (hT : T ∈ tyL := by decide) (hv : bootBuiltins x = some (.type T) := by decide +kernel) (hg : Gl X "type" := by rfl) (hgT : Gl X x := by rfl) (hn : x ≠ "__name__" := by decide) (hdb : (x == ("__debug__" : Str)) = false := by decide)
    (he : starEach [e] X.env = (false, eval e X.env) :: starEach [] X.env := by rfl) (hpl : (backTo p2 (starEach [] X.env)).any (·.1) = false := by rfl) : EvT X (.Compare (.Call (.Name "type" p) [e] [] p2) [.Eq] [.Name x p3] pos) s0 s1 (decide (tyD d = T)) := .mk fun E Q q =>
  WT.of (pt_cmpR op_tyEq (pe_callTy call_tyD hg hm (by decide +kernel) (pa_cons pe_W pa_nil he) (by decide) (by decide) he hpl) (pe_bltn (v := .ty T) hgT hmT hv rfl hn hdb) (nomark _))
    (h E _ fun v G' H' E' g r => ⟨v, d, rfl, dp_mono E'.s d r, tyD d, T, rfl, rfl, ty_in d, hT, _, rfl, q G' H' E' g⟩)
/-- type(e) != T where it is T -/
theorem et_tyNeS {x : Str} (h : Ev X e s0 s1 d) (hm : X.mg "type" = none) (hmT : X.mg x = none) (hv : bootBuiltins x = some (.type (tyD d)) := by decide +kernel) (hg : Gl X "type" := by rfl) (hgT : Gl X x := by rfl) (hn : x ≠ "__name__" := by decide) (hdb : (x == ("__debug__" : Str)) = false := by decide)
    (he : starEach [e] X.env = (false, eval e X.env) :: starEach [] X.env := by rfl) (hpl : (backTo p2 (starEach [] X.env)).any (·.1) = false := by rfl) : EvT X (.Compare (.Call (.Name "type" p) [e] [] p2) [.NotEq] [.Name x p3] pos) s0 s1 false := .mk fun E Q q =>
  WT.of (pt_cmpR op_tyNeS (pe_callTy call_tyD hg hm (by decide +kernel) (pa_cons pe_W pa_nil he) (by decide) (by decide) he hpl) (pe_bltn (v := .ty (tyD d)) hgT hmT hv rfl hn hdb) (nomark _))
    (h E _ fun v G' H' E' g r => ⟨v, d, rfl, dp_mono E'.s d r, tyD d, rfl, rfl, ty_in d, _, rfl, q G' H' E' g⟩)
end
end Ewl

set_option maxRecDepth 100000
set_option maxHeartbeats 2000000
/-! Lists of one's own, dicts of one's own. -/
namespace Ewl
open PySem L2
section
variable {X : Cx} {a b e : Expr} {es : List Expr} {s0 s1 s2 : List Sl} {d d1 d2 z : PyData} {xs ys : List PyData} {pos p p2 p3 : Pos} {i : Nat} {x : Str}

/-! ### + and * of lists -/
theorem el_cat (ha : EvL X a s0 s1 xs) (hb : EvL X b s1 s2 ys) (hl : xs.length + ys.length ≤ 100000) : EvL X (.BinOp a .Add b pos) s0 s2 (xs ++ ys) := .mk fun {G₀ H₀ G H σ} E Q q =>
  W.of (pe_op op_cat pe_W pe_W) (ha E _ fun l vs G1 H1 E1 g1 hl1 r1 => by
    have gw := Gw.new (o := .lst vs) E1.s hl1
    refine hb (E1.grow gw) _ fun l2 ws G2 H2 E2 g2 hl2 r2 => ?_
    have h1 : H2 l = some (.lst vs) := E2.s _ _ (g2 _ _ upd_same)
    have gw2 := Gw.new (o := .lst ws) E2.s hl2
    refine ⟨l, l2, vs, ws, rfl, rfl, by rw [upd_ne (ne_of_none h1 hl2)]; exact h1, upd_same, ?_, fun p hp => ?_⟩
    · rw [dpAll_len r1, dpAll_len r2]; exact Nat.le_trans hl (by decide)
    · exact q p (vs ++ ws) _ _ (E2.grow gw2) (((g1.trans gw.g).trans g2).trans gw2.g) hp (dpAll_app (dpAll_mono ((gw.g.trans g2).trans gw2.g) _ r1) (dpAll_mono gw2.g _ r2)))
/-- x + b, x a list of one's own -/
theorem el_catO (hN : X.N[i]? = some x) (h0 : s0[i]? = some (.l xs)) (hb : EvL X b s0 s1 ys) (h1 : s1[i]? = some (.l xs)) (hl : xs.length + ys.length ≤ 100000) (hv : Vis X.env.scope x := by first | exact Or.inl rfl | exact Or.inr (Or.inl rfl) | exact Or.inr (Or.inr rfl))
    (hd : (x == ("__debug__" : Str)) = false := by decide) (hcd : (x == ("__classdict__" : Str)) = false := by decide) : EvL X (.BinOp (.Name x p) .Add b pos) s0 s1 (xs ++ ys) := .mk fun {G₀ H₀ G H σ} E Q q => by
  obtain ⟨l, vs0, hσ, _⟩ := E.getL h0
  refine W.of (pe_op op_cat (pe_var hN hv hd hcd) pe_W) ⟨_, hσ, ?_⟩
  refine hb E _ fun l2 ws G2 H2 E2 g2 hl2 r2 => ?_
  obtain ⟨l', vs, hσ', gn, _, hl', r1⟩ := E2.getL h1
  rw [hσ] at hσ'
  cases hσ'
  have gw2 := Gw.new (o := .lst ws) E2.s hl2
  refine ⟨l, l2, vs, ws, rfl, rfl, by rw [upd_ne (ne_of_none hl' hl2)]; exact hl', upd_same, ?_, fun p hp => ?_⟩
  · rw [dpAll_len r1, dpAll_len r2]; exact Nat.le_trans hl (by decide)
  · exact q p (vs ++ ws) _ _ (E2.grow gw2) (g2.trans gw2.g) hp (dpAll_app (dpAll_mono gw2.g _ r1) (dpAll_mono gw2.g _ r2))
theorem flat_rep {K : PySem.W.Frag} {G : Hp} {vs : List V} {ds : List PyData} (h : DdAll K G vs ds) : ∀ n : Nat, DdAll K G (List.replicate n vs).flatten (List.replicate n ds).flatten
  | 0 => .nil
  | n + 1 => by rw [List.replicate_succ, List.replicate_succ, List.flatten_cons, List.flatten_cons]; exact dpAll_app h (flat_rep h n)
theorem el_rep {k : Int} (ha : EvL X a s0 s1 xs) (hb : Ev X b s1 s2 (.int k)) (hk : -(2 ^ 63) ≤ k ∧ k < 2 ^ 63) (hl : xs.length * k.toNat ≤ 100000) : EvL X (.BinOp a .Mult b pos) s0 s2 (List.replicate k.toNat xs).flatten := .mk fun {G₀ H₀ G H σ} E Q q =>
  W.of (pe_op op_rep pe_W pe_W) (ha E _ fun l vs G1 H1 E1 g1 hl1 r1 => by
    have gw := Gw.new (o := .lst vs) E1.s hl1
    refine hb (E1.grow gw) _ fun v G2 H2 E2 g2 r2 => ?_
    cases r2
    have h1 : H2 l = some (.lst vs) := E2.s _ _ (g2 _ _ upd_same)
    refine ⟨l, k, vs, rfl, rfl, h1, hk.1, hk.2, ?_, fun p hp => ?_⟩
    · rw [dpAll_len r1]; exact Nat.le_trans hl (by decide)
    · exact q p _ _ _ E2 ((g1.trans gw.g).trans g2) hp (flat_rep (dpAll_mono (gw.g.trans g2) _ r1) _))

/-! ### a list of one's own: its length, append, pop -/
theorem ev_lenO (hN : X.N[i]? = some x) (h0 : s0[i]? = some (.l xs)) (hm : X.mg "len" = none) (hg : Gl X "len" := by rfl) (hv : Vis X.env.scope x := by first | exact Or.inl rfl | exact Or.inr (Or.inl rfl) | exact Or.inr (Or.inr rfl))
    (hd : (x == ("__debug__" : Str)) = false := by decide) (hcd : (x == ("__classdict__" : Str)) = false := by decide) (he : starEach [Expr.Name x p] X.env = (false, eval (.Name x p) X.env) :: starEach [] X.env := by rfl) (hpl : (backTo p3 (starEach [] X.env)).any (·.1) = false := by rfl) :
    Ev X (.Call (.Name "len" p2) [.Name x p] [] p3) s0 s0 (.int xs.length) := .mk fun {G₀ H₀ G H σ} E Q q => by
  obtain ⟨l, vs, hσ, gn, _, hl, r⟩ := E.getL h0
  refine W.of (pe_callB call_len_seq hg hm PySem.boot_len (pa_cons (pe_var hN hv hd hcd) pa_nil he) (by decide) (by decide) he hpl) ⟨_, hσ, ?_⟩
  exact ⟨l, vs, rfl, .inl (SqL.of hl), by rw [dpAll_len r]; exact q _ G H E (Ex.refl G) (.int _)⟩
/-- x[k], x a list of one's own -/
theorem ev_ixO {k : Int} (hN : X.N[i]? = some x) (h0 : s0[i]? = some (.l xs)) (hb : Ev X b s0 s1 (.int k)) (h1 : s1[i]? = some (.l xs)) (hk : atI xs k = some d) (hv : Vis X.env.scope x := by first | exact Or.inl rfl | exact Or.inr (Or.inl rfl) | exact Or.inr (Or.inr rfl))
    (hd : (x == ("__debug__" : Str)) = false := by decide) (hcd : (x == ("__classdict__" : Str)) = false := by decide) (hs : PlainIx b := by intro _ _; rfl) : Ev X (.Subscript (.Name x p) b pos) s0 s1 d := .mk fun {G₀ H₀ G H σ} E Q q => by
  obtain ⟨l, vs0, hσ, _⟩ := E.getL h0
  refine W.of (pe_ix ix_list (pe_var hN hv hd hcd) pe_W hs) ⟨_, hσ, ?_⟩
  refine hb E _ fun v G1 H1 E1 g1 r1 => ?_
  cases r1
  obtain ⟨l', vs, hσ', gn, _, hl', r⟩ := E1.getL h1
  rw [hσ] at hσ'
  cases hσ'
  obtain ⟨v, ev, rv⟩ := atI_dp r hk
  exact ⟨l, vs, k, v, rfl, rfl, SqL.of hl', ev, q v G1 H1 E1 g1 rv⟩
theorem st_app (hN : X.N[i]? = some x) (h0 : s0[i]? = some (.l xs)) (hb : Ev X b s0 s1 d) (h1 : s1[i]? = some (.l xs)) (hl : xs.length ≤ 100000) (hv : Vis X.env.scope x := by first | exact Or.inl rfl | exact Or.inr (Or.inl rfl) | exact Or.inr (Or.inr rfl))
    (hd : (x == ("__debug__" : Str)) = false := by decide) (hcd : (x == ("__classdict__" : Str)) = false := by decide)
    (he : ∀ {te : TE}, PE X (.Name x p) te → PE X (.Call (.Attribute (.Name x p) "append" p2) [b] [] p3) (tBM X.K "list" rAppend te (WA X [b])) := by exact fun h => pe_bm PySem.F.plainAttrs_list PySem.F.slot_list_append PySem.F.type_list_append mt_append h pa_W)
    (hs : swapsWith (.Call (.Attribute (.Name x p) "append" p2) [b] [] p3) none pos.line X.env = pure false := by rfl) (hst : starEach [b] X.env = (false, eval b X.env) :: starEach [] X.env := by rfl) : St1 X (.Expr (.Call (.Attribute (.Name x p) "append" p2) [b] [] p3) pos) s0 (.nx (s1.set i (.l (xs ++ [d])))) := .mk fun {G₀ H₀ G H σ} E D k => by
  obtain ⟨l, vs0, hσ, _, _, hl0, _⟩ := E.getL h0
  refine WS.of (ps_expr (he (pe_var hN hv hd hcd)) hs) ⟨_, hσ, .inl ⟨rfl, _, SqL.of hl0⟩, ?_⟩
  refine (ea_cons hb ea_nil hst) E _ fun us G1 H1 E1 g1 r1 => ?_
  cases r1 with
  | cons r1 rr =>
    cases rr
    obtain ⟨l', vs, hσ', gn, _, hl', r⟩ := E1.getL h1
    rw [hσ] at hσ'
    cases hσ'
    refine ⟨l, vs, _, rfl, rfl, hl', ?_, ?_⟩
    · rw [dpAll_len r]; exact Nat.lt_of_le_of_lt hl (by decide)
    · exact k σ G1 _ (E1.putL h1 hσ (dpAll_app r (dpAll_one r1))) g1
end
end Ewl

set_option maxRecDepth 100000
set_option maxHeartbeats 2000000
/-! pop; dicts; slices. -/
namespace Ewl
open PySem L2
section
variable {X : Cx} {a b e : Expr} {es : List Expr} {s0 s1 s2 : List Sl} {d d1 d2 z : PyData} {xs ys : List PyData} {pos p p2 p3 p4 : Pos} {i j : Nat} {x y : Str}
/-- y = x.pop(k) -/
theorem st_popAt {k : Int} {n : Nat} (hN : X.N[i]? = some x) (h0 : s0[i]? = some (.l xs)) (hb : Ev X b s0 s1 (.int k)) (h1 : s1[i]? = some (.l xs)) (hn : k = (n : Int)) (hn2 : n < xs.length) (hz : xs.length ≤ 100000) (hd1 : xs[n]? = some d) (hj : X.N[j]? = some y) (hlj : j < s1.length) (hND : X.N.Nodup)
    (hy : Loc X.env.scope y := by first | exact Or.inl rfl | exact Or.inr rfl) (hv : Vis X.env.scope x := by first | exact Or.inl rfl | exact Or.inr (Or.inl rfl) | exact Or.inr (Or.inr rfl))
    (hd : (x == ("__debug__" : Str)) = false := by decide) (hcd : (x == ("__classdict__" : Str)) = false := by decide)
    (he : ∀ {te : TE}, PE X (.Name x p) te → PE X (.Call (.Attribute (.Name x p) "pop" p2) [b] [] p3) (tBM X.K "list" rPopAt te (WA X [b])) := by exact fun h => pe_bm PySem.F.plainAttrs_list PySem.F.slot_list_pop PySem.F.type_list_pop mt_popAt h pa_W)
    (hs : swapsWith (.Call (.Attribute (.Name x p) "pop" p2) [b] [] p3) (some (.Name y p4)) pos.line X.env = pure false := by rfl) (hst : starEach [b] X.env = (false, eval b X.env) :: starEach [] X.env := by rfl)
    (hf : X.fn y = true ∨ X.env.scope.names.lookup y = some .local := by first | exact .inl rfl | exact .inr rfl) : St1 X (.Assign [.Name y p4] (.Call (.Attribute (.Name x p) "pop" p2) [b] [] p3) pos) s0 (.nx ((s1.set i (.l (xs.eraseIdx n))).set j (.d d))) := .mk fun {G₀ H₀ G H σ} E D kk => by
  obtain ⟨l, vs0, hσ, _, _, hl0, _⟩ := E.getL h0
  refine WS.of (ps_set hND hj hy (he (pe_var hN hv hd hcd)) hs hf) ⟨_, hσ, .inl ⟨rfl, _, SqL.of hl0⟩, ?_⟩
  refine (ea_cons hb ea_nil hst) E _ fun us G1 H1 E1 g1 r1 => ?_
  cases r1 with
  | cons r1 rr =>
    cases rr
    cases r1
    obtain ⟨l', vs, hσ', gn, _, hl', r⟩ := E1.getL h1
    rw [hσ] at hσ'
    cases hσ'
    have hlen := dpAll_len r
    obtain ⟨v, ev, rv⟩ := dpAll_get r hd1
    refine ⟨l, vs, k, n, v, rfl, rfl, hl', by omega, by omega, ?_, ev, ?_⟩
    · have e1 : ¬ k < 0 := by omega
      have e2 : k.toNat = n := by omega
      have e3 : n < vs.length := by omega
      simp [seqIndex?, e1, e2, e3]
      try omega
    · have E2 := E1.putL h1 hσ (dpAll_erase n r)
      exact kk _ G1 _ (E2.setD (by rw [List.length_set]; exact hlj) rv) g1

/-! ### a dict with texts as keys -/
def valD {κ : Type} [DecidableEq κ] (kvs : List (κ × PyData)) (k : κ) : Option PyData := (kvs.find? fun kv => decide (kv.1 = k)).map (·.2)
def putD {κ : Type} [DecidableEq κ] (kvs : List (κ × PyData)) (k : κ) (v : PyData) : List (κ × PyData) :=
  if (kvs.any fun kv => decide (kv.1 = k)) = true then kvs.map (fun kv => if kv.1 = k then (kv.1, v) else kv) else kvs ++ [(k, v)]
theorem kd_val {κ : Type} [DecidableEq κ] {K : PySem.W.Frag} {G : Hp} {k : κ} : ∀ {ps : List (κ × V)} {kvs : List (κ × PyData)}, KD K G ps kvs → (∀ d, valD kvs k = some d → ∃ v, valV ps k = some v ∧ Dd K G v d) ∧ ((valV ps k).isSome = (valD kvs k).isSome)
  | _, _, .nil => ⟨fun d h => by simp [valD] at h, rfl⟩
  | p :: ps, q :: kvs, .cons h t => by
    have ih := kd_val (k := k) t
    obtain ⟨e, r⟩ := h
    by_cases c : p.1 = k
    · have c' : q.1 = k := e ▸ c
      have e1 : valV (p :: ps) k = some p.2 := valV_pos c
      have e2 : valD (q :: kvs) k = some q.2 := by simp [valD, List.find?_cons, c']
      rw [e1, e2]
      exact ⟨fun d h => by cases h; exact ⟨_, rfl, r⟩, rfl⟩
    · have c' : ¬ q.1 = k := e ▸ c
      have e1 : valV (p :: ps) k = valV ps k := valV_neg c
      have e2 : valD (q :: kvs) k = valD kvs k := by simp [valD, List.find?_cons, c']
      rw [e1, e2]
      exact ih
theorem kd_any {κ : Type} [DecidableEq κ] {K : PySem.W.Frag} {G : Hp} {k : κ} : ∀ {ps : List (κ × V)} {kvs : List (κ × PyData)}, KD K G ps kvs → (ps.any fun kv => decide (kv.1 = k)) = (kvs.any fun kv => decide (kv.1 = k))
  | _, _, .nil => rfl
  | p :: ps, q :: kvs, .cons h t => by
    rw [List.any_cons, List.any_cons, kd_any t, h.1]
theorem kd_map {κ : Type} [DecidableEq κ] {K : PySem.W.Frag} {G : Hp} {k : κ} {v : V} {d : PyData} (r : Dd K G v d) : ∀ {ps : List (κ × V)} {kvs : List (κ × PyData)}, KD K G ps kvs →
    KD K G (ps.map fun kv => if kv.1 = k then (kv.1, v) else kv) (kvs.map fun kv => if kv.1 = k then (kv.1, d) else kv)
  | _, _, .nil => .nil
  | p :: ps, q :: kvs, .cons h t => by
    rw [List.map_cons, List.map_cons]
    refine .cons ?_ (kd_map r t)
    by_cases c : p.1 = k
    · rw [if_pos c, if_pos (h.1 ▸ c)]; exact ⟨h.1, r⟩
    · rw [if_neg c, if_neg (h.1 ▸ c)]; exact h
theorem kd_app {κ : Type} {K : PySem.W.Frag} {G : Hp} : ∀ {ps : List (κ × V)} {kvs : List (κ × PyData)} {qs : List (κ × V)} {lvs : List (κ × PyData)}, KD K G ps kvs → KD K G qs lvs → KD K G (ps ++ qs) (kvs ++ lvs)
  | _, _, _, _, .nil, s => s
  | _, _, _, _, .cons h t, s => .cons h (kd_app t s)
theorem kd_put {κ : Type} [DecidableEq κ] {K : PySem.W.Frag} {G : Hp} {k : κ} {v : V} {d : PyData} (r : Dd K G v d) {ps : List (κ × V)} {kvs : List (κ × PyData)} (h : KD K G ps kvs) : KD K G (putK ps k v) (putD kvs k d) := by
  unfold putK putD
  rw [kd_any h]
  split
  · exact kd_map r h
  · exact kd_app h (.cons ⟨rfl, r⟩ .nil)
theorem kd_len {κ : Type} {K : PySem.W.Frag} {G : Hp} : ∀ {ps : List (κ × V)} {kvs : List (κ × PyData)}, KD K G ps kvs → ps.length = kvs.length
  | _, _, .nil => rfl
  | _, _, .cons _ t => by rw [List.length_cons, List.length_cons, kd_len t]
/-- x['k'] -/
theorem ev_dgetK {o : Option Addr} {kvs : List (Key × PyData)} {k : Str} {j' : Nat} (hN : X.N[i]? = some x) (h0 : s0[i]? = some (.dk o kvs)) (hk : valD kvs (Sum.inr k) = some d) (hu : X.A.units + 1 < cLine) (hv : Vis X.env.scope x := by first | exact Or.inl rfl | exact Or.inr (Or.inl rfl) | exact Or.inr (Or.inr rfl))
    (hd : (x == ("__debug__" : Str)) = false := by decide) (hcd : (x == ("__classdict__" : Str)) = false := by decide) (hs : NoSl (.Constant (.str k) j' p2) := by intro _ _; rfl) : Ev X (.Subscript (.Name x p) (.Constant (.str k) j' p2) pos) s0 s0 d := .mk fun {G₀ H₀ G H σ} E Q q => by
  obtain ⟨l, ps, hσ, eo, gn, _, hl, r⟩ := E.getK h0
  refine W.of (pe_dget hu (pe_var hN hv hd hcd) pe_str hs) ⟨_, hσ, ?_⟩
  obtain ⟨v, ev, rv⟩ := (kd_val r).1 d hk
  exact ⟨l, v, rfl, by rw [← ev]; exact DGet.k (k := Sum.inr k) hl, q v G H E (Ex.refl G) rv⟩
/-- x['k'] = e -/
theorem st_dputK {o : Option Addr} {kvs : List (Key × PyData)} {k : Str} {j' : Nat} (hN : X.N[i]? = some x) (he : Ev X e s0 s1 d) (h1 : s1[i]? = some (.dk o kvs)) (hz : kvs.length ≤ 1000) (hu : X.A.units + 1 < cLine) (hv : Vis X.env.scope x := by first | exact Or.inl rfl | exact Or.inr (Or.inl rfl) | exact Or.inr (Or.inr rfl))
    (hd : (x == ("__debug__" : Str)) = false := by decide) (hcd : (x == ("__classdict__" : Str)) = false := by decide) (hs : swapsWith e (some (.Subscript (.Name x p) (.Constant (.str k) j' p2) p3)) pos.line X.env = pure false := by rfl) :
    St1 X (.Assign [.Subscript (.Name x p) (.Constant (.str k) j' p2) p3] e pos) s0 (.nx (s1.set i (.dk o (putD kvs (Sum.inr k) d)))) := .mk fun {G₀ H₀ G H σ} E D kk => by
  refine WS.of (ps_dput hu (pe_var hN hv hd hcd) pe_str pe_W hs) (he E _ fun v G1 H1 E1 g1 r1 => ?_)
  obtain ⟨l, ps, hσ, eo, gn, h0, hl, r⟩ := E1.getK h1
  refine ⟨_, hσ, l, _, rfl, DPut.k (k := Sum.inr k) hl ?_, ?_⟩
  · rw [kd_len r]; exact Nat.lt_of_le_of_lt hz (by decide)
  · exact kk σ G1 _ (E1.putK h1 hσ (Ex.refl G1) (E1.s.put gn) (fun b u hb hu => by rw [upd_ne hb]; exact hu) (fun b u _ _ n => n) gn upd_same (kd_put r1 r)) g1
/-! ### a dict with tuples of ints as keys -/
def kI (ns : List Int) : List Key := ns.map Sum.inl
def tI (ns : List Int) : PyData := .tuple (ns.map .int)
theorem dd_tI {K : PySem.W.Frag} {G : Hp} {v : V} {ns : List Int} (h : Dd K G v (tI ns)) : ∃ b, v = .ref b ∧ G b = some (.tup ((kI ns).map kV)) := by
  cases h with
  | tup s a =>
    have e : (kI ns).map kV = ns.map V.int := by unfold kI; rw [List.map_map]; rfl
    exact ⟨_, rfl, by rw [e, ← dpAll_ints' a]; exact s⟩
/-- e in x, e a tuple of ints -/
theorem et_inT {kvs : List (List Key × PyData)} {ns : List Int} (hN : X.N[i]? = some x) (he : Ev X e s0 s1 (tI ns)) (h1 : s1[i]? = some (.dt kvs)) (hu : X.A.units + 1 < cLine) (hv : Vis X.env.scope x := by first | exact Or.inl rfl | exact Or.inr (Or.inl rfl) | exact Or.inr (Or.inr rfl))
    (hd : (x == ("__debug__" : Str)) = false := by decide) (hcd : (x == ("__classdict__" : Str)) = false := by decide) (hb : behindInMarks .In (.Name x p) = false := by rfl) : EvT X (.Compare e [.In] [.Name x p] pos) s0 s1 (valD kvs (kI ns)).isSome := .mk fun {G₀ H₀ G H σ} E Q q => by
  refine WT.of (pt_cmp (pc_din hu pe_W (pe_var hN hv hd hcd)) hb) (he E _ fun v G1 H1 E1 g1 r1 => ?_)
  obtain ⟨l, ps, hσ, gn, _, hl, r⟩ := E1.getT h1
  obtain ⟨b, rfl, hb⟩ := dd_tI r1
  exact ⟨_, hσ, l, _, rfl, DGet.t hl (E1.s _ _ hb), _, rfl, by rw [(kd_val r).2]; exact q G1 H1 E1 g1⟩
/-- x[e] = True, or other data -/
theorem st_dputT {kvs : List (List Key × PyData)} {ns : List Int} (hN : X.N[i]? = some x) (he : Ev X e s0 s1 d) (hk : Ev X a s1 s2 (tI ns)) (h0 : s1[i]? = some (.dt kvs)) (h1 : s2[i]? = some (.dt kvs)) (hz : kvs.length ≤ 1000) (hu : X.A.units + 1 < cLine) (hv : Vis X.env.scope x := by first | exact Or.inl rfl | exact Or.inr (Or.inl rfl) | exact Or.inr (Or.inr rfl))
    (hd : (x == ("__debug__" : Str)) = false := by decide) (hcd : (x == ("__classdict__" : Str)) = false := by decide) (hs : swapsWith e (some (.Subscript (.Name x p) a p3)) pos.line X.env = pure false := by rfl) :
    St1 X (.Assign [.Subscript (.Name x p) a p3] e pos) s0 (.nx (s2.set i (.dt (putD kvs (kI ns) d)))) := .mk fun {G₀ H₀ G H σ} E D kk => by
  refine WS.of (ps_dput hu (pe_var hN hv hd hcd) pe_W pe_W hs) (he E _ fun v G1 H1 E1 g1 r1 => ?_)
  obtain ⟨l0, ps0, hσ0, _⟩ := E1.getT h0
  refine ⟨_, hσ0, hk E1 _ fun v2 G2 H2 E2 g2 r2 => ?_⟩
  obtain ⟨l, ps, hσ, gn, _, hl, r⟩ := E2.getT h1
  rw [hσ0] at hσ
  cases hσ
  obtain ⟨b, rfl, hb⟩ := dd_tI r2
  refine ⟨_, _, rfl, DPut.t hl (E2.s _ _ hb) ?_, ?_⟩
  · rw [kd_len r]; exact Nat.lt_of_le_of_lt hz (by decide)
  · exact kk σ G2 _ (E2.putT h1 hσ0 (kd_put (dp_mono g2 d r1) r)) (g1.trans g2)
theorem st_newT {pos' : Pos} (hi : X.N[i]? = some x) (hl : i < s0.length) (hN : X.N.Nodup) (hx : Loc X.env.scope x := by first | exact Or.inl rfl | exact Or.inr rfl) (hs : swapsWith (.Dict [] [] p) (some (.Name x pos')) pos.line X.env = pure false := by rfl)
    (hf : X.fn x = true ∨ X.env.scope.names.lookup x = some .local := by first | exact .inl rfl | exact .inr rfl) : St1 X (.Assign [.Name x pos'] (.Dict [] [] p) pos) s0 (.nx (s0.set i (.dt []))) := .mk fun {G₀ H₀ G H σ} E D k =>
  WS.of (ps_set hN hi hx pe_dnewT hs hf) fun a ha => k _ G _ (E.setT hl ha) (Ex.refl G)

/-! ### slices of lists -/
def sliceD (ds : List PyData) (lo hi : Option Int) : List PyData := (ds.drop (HT.sIx ds.length 0 lo)).take (HT.sIx ds.length ds.length hi - HT.sIx ds.length 0 lo)
theorem cut_dd {K : PySem.W.Frag} {G : Hp} {vs : List V} {ds : List PyData} (h : DdAll K G vs ds) (lo hi : Option Int) : DdAll K G (cutV vs lo hi) (sliceD ds lo hi) := by
  unfold cutV sliceD
  rw [dpAll_len h]
  exact dpAll_take _ (dpAll_drop _ h)
theorem el_sliceF {k : Int} {j' : Nat} (ha : Ev X a s0 s1 (.list xs)) : EvL X (.Subscript a (.Slice (some (.Constant (.int k) j' p3)) none none p2) pos) s0 s1 (sliceD xs (some k) none) := .mk fun E Q q =>
  W.of (pe_slice sl_list pe_W (po_some pe_int) po_none) (ha E _ fun v G1 H1 E1 g1 r1 => by
    cases r1 with
    | lst s r => exact ⟨k, rfl, _, _, rfl, ex_l E1.s s, fun p hp => q p _ G1 H1 E1 g1 hp (cut_dd r _ _)⟩)
theorem el_sliceT {k : Int} {j' : Nat} (ha : Ev X a s0 s1 (.list xs)) : EvL X (.Subscript a (.Slice none (some (.Constant (.int k) j' p3)) none p2) pos) s0 s1 (sliceD xs none (some k)) := .mk fun E Q q =>
  W.of (pe_slice sl_list pe_W po_none (po_some pe_int)) (ha E _ fun v G1 H1 E1 g1 r1 => by
    cases r1 with
    | lst s r => exact ⟨k, rfl, _, _, rfl, ex_l E1.s s, fun p hp => q p _ G1 H1 E1 g1 hp (cut_dd r _ _)⟩)
end
end Ewl

set_option maxRecDepth 100000
set_option maxHeartbeats 2000000
/-! A list of lists, all one's own. -/
namespace Ewl
open PySem L2
section
variable {K : PySem.W.Frag} {G₀ H₀ B B' G H G' H' : Hp} {σ : L2.St} {sl : List Sl}
theorem En.rebase (E : En K G₀ B G H σ sl) (h1 : Ex B' H') (h2 : Ex G H') (h3 : ∀ b o, B' b = some o → G₀ b = none → G b = none) (h4 : ∀ b o, B b = none → H b = some o → B' b = none ∧ H' b = some o) : En K G₀ B' G H' σ sl := by
  obtain ⟨fp, k1, k3, k4⟩ := E.own
  refine ⟨⟨E.gw.g, h1, h2, h3⟩, E.len, fp, fun i => (k1 i).mono (Ex.refl G) fun a ha o ho => ⟨(h4 a o (k4 i a ha) ho).2, fun n => n⟩, k3, fun i a ha => ?_⟩
  obtain ⟨_, o, ho⟩ := (k1 i).free a ha
  exact (h4 a o (k4 i a ha) ho).1
/-- rows told by a heap B -/
def RowsB (K : PySem.W.Frag) (G B : Hp) : List Addr → List (List PyData) → Prop
  | [], [] => True
  | a :: as, xs :: xss => (∃ vs, B a = some (.lst vs) ∧ DdAll K G vs xs) ∧ RowsB K G B as xss
  | _, _ => False
theorem RowsB.mono (g : Ex G G') : ∀ {as : List Addr} {xss : List (List PyData)}, (∀ a ∈ as, B' a = B a) → RowsB K G B as xss → RowsB K G' B' as xss
  | [], [], _, _ => trivial
  | a :: as, xs :: xss, k, ⟨⟨vs, h1, h2⟩, h3⟩ => ⟨⟨vs, by rw [k a (List.mem_cons_self)]; exact h1, dpAll_mono g xs h2⟩, RowsB.mono g (fun b hb => k b (List.mem_cons_of_mem _ hb)) h3⟩
  | [], _ :: _, _, h => h.elim
  | _ :: _, [], _, h => h.elim
theorem RowsB.app {a : Addr} {vs : List V} {xs : List PyData} (h1 : B a = some (.lst vs)) (h2 : DdAll K G vs xs) : ∀ {as : List Addr} {xss : List (List PyData)}, RowsB K G B as xss → RowsB K G B (as ++ [a]) (xss ++ [xs])
  | [], [], _ => ⟨⟨vs, h1, h2⟩, trivial⟩
  | _ :: _, _ :: _, ⟨q, h3⟩ => ⟨q, RowsB.app h1 h2 h3⟩
  | [], _ :: _, h => h.elim
  | _ :: _, [], h => h.elim
theorem RowsB.len : ∀ {as : List Addr} {xss : List (List PyData)}, RowsB K G B as xss → as.length = xss.length
  | [], [], _ => rfl
  | _ :: _, _ :: _, h => by rw [List.length_cons, List.length_cons, RowsB.len h.2]
  | [], _ :: _, h => h.elim
  | _ :: _, [], h => h.elim
theorem RowsB.rows (hG : ∀ a o, B a = some o → H₀ a = none → G a = none) (hB : Ex B H) : ∀ {as : List Addr} {xss : List (List PyData)}, (∀ a ∈ as, H₀ a = none) → RowsB K G B as xss → Rows K G H as xss
  | [], [], _, _ => trivial
  | a :: as, xs :: xss, k, ⟨⟨vs, h1, h2⟩, h3⟩ => ⟨hG a _ h1 (k a List.mem_cons_self), ⟨vs, hB _ _ h1, h2⟩, RowsB.rows hG hB (fun b hb => k b (List.mem_cons_of_mem _ hb)) h3⟩
  | [], _ :: _, _, h => h.elim
  | _ :: _, [], _, h => h.elim
theorem RowsB.mem : ∀ {as : List Addr} {xss : List (List PyData)}, RowsB K G B as xss → ∀ a ∈ as, ∃ o, B a = some o
  | [], [], _, a, ha => by cases ha
  | c :: as, xs :: xss, ⟨⟨vs, h1, _⟩, h3⟩, a, ha => by
    rcases List.mem_cons.mp ha with z | z
    · subst z; exact ⟨_, h1⟩
    · exact RowsB.mem h3 a z
  | [], _ :: _, h, _, _ => h.elim
  | _ :: _, [], h, _, _ => h.elim
end
section
variable {X : Cx} {tg iter c elt : Expr} {s0 s1 s2 : List Sl} {items : List PyData} {yss : List (List PyData)} {pos : Pos} {scope : Scope} {own : List (Str × Nat)}
/-- y = [ELT for ..], each element a new list of one's own -/
theorem st_lcLL {S : Nat → List Sl} (hi : EvI X tg iter s0 s1 items) (ok : BlkOk X.N X.env.scope scope own) (h0 : S 0 = wipeS s1 (own.map (·.2))) (hlen : yss.length = items.length) (hsz : items.length ≤ 100000)
    (turn : ∀ (i : Nat) (d : PyData) (ys : List PyData), items[i]? = some d → yss[i]? = some ys → ∃ m ts m', (∀ j ∈ ts, j ∈ own.map (·.2)) ∧ wipeS m' (own.map (·.2)) = S (i + 1) ∧
      ∀ (s : Shared) (H : Hp) (C : Addr) (cl : List (Str × Addr)) (fp : List Addr), Tg (Blk X scope s H C cl fp) tg (S i) d m ts ∧ EvL (Blk X scope s H C cl fp) elt m m' ys)
    {j : Nat} {y : Str} {py spos : Pos} (hN : X.N.Nodup) (hy : X.N[j]? = some y) (hlj : j < (S items.length).length) (hyl : X.env.scope.names.lookup y = some .local := by rfl)
    (hsw : swapsWith (.ListComp elt [⟨tg, iter, [], 0⟩] scope pos) (some (.Name y py)) spos.line X.env = pure true := by exact sw_true rfl rfl rfl (by decide +kernel)) (hc : X.calm = true := by rfl) (hs : ∀ x, foldedSetIterable iter X.env x = pure x := by intro _; rfl) :
    St1 X (.Assign [.Name y py] (.ListComp elt [⟨tg, iter, [], 0⟩] scope pos) spos) s0 (.nx ((S items.length).set j (.ll yss))) := .mk fun {G₀ H₀ G H σ} E DD kk => by
  refine WS.of (ps_setLc hc hN hy hyl hsw pi_W ok gb_ok (fun _ _ _ _ _ => pts_nil) eb_ok hs) ?_
  refine hi E _ fun J G' H' E' g y D hD => ?_
  have h0D : H₀ D = none := E'.gw.h.back hD
  have g0D : G₀ D = none := (E'.gw.g.trans E'.s).back hD
  refine ⟨fun i m H => m = items.length - i ∧ i ≤ items.length ∧ ∃ B G1 as, En X.K G₀ B G1 H (wipe σ (own.map (·.2))) (S i) ∧ Ex G' G1 ∧ Ex H₀ B ∧ B D = some (.lst (as.map V.ref)) ∧ RowsB X.K G1 B as (yss.take i) ∧ (D :: as).Nodup ∧ ∀ a ∈ D :: as, H₀ a = none ∧ G₀ a = none,
    ⟨items.length, by simp, Nat.zero_le _, L2.upd H₀ D (.lst []), G', [], ?_, Ex.refl _, Ex.new h0D, upd_same, trivial, by simp, fun a ha => ?_⟩, ?_⟩
  · rw [h0]; exact (en_wipe E' _).keep hD
  · have : a = D := by simpa using ha
    subst this; exact ⟨h0D, g0D⟩
  rintro i m H3 ⟨rfl, hil, B, G1, as, E1, g1, eB, hBD, ra, nd, hfr⟩
  by_cases hlt : i < items.length
  · obtain ⟨go, yd⟩ := (y i G1 _ g1 E1.s).1 hlt
    refine .inr ⟨go, fun H => ∃ B G1 as, En X.K G₀ B G1 H (wipe σ (own.map (·.2))) (S (i + 1)) ∧ Ex G' G1 ∧ Ex H₀ B ∧ B D = some (.lst (as.map V.ref)) ∧ RowsB X.K G1 B as (yss.take (i + 1)) ∧ (D :: as).Nodup ∧ ∀ a ∈ D :: as, H₀ a = none ∧ G₀ a = none,
      fun H' p => ⟨items.length - (i + 1), by omega, rfl, hlt, p⟩, fun x H2 hy => ?_⟩
    obtain ⟨G2, d, hd, gw, r⟩ := yd x H2 hy
    have hyi : yss[i]? = some yss[i] := by simp [hlen, hlt]
    obtain ⟨m, ts, m', hts, hm', hb⟩ := turn i d yss[i] hd hyi
    intro s H0 C cl fp
    refine (hb s H0 C cl fp).1 (E1.grow gw) r _ fun σ2 E3 hl2 hout => ?_
    have hw : wipe σ2 (own.map (·.2)) = wipe σ (own.map (·.2)) := wipe_eq (by rw [hl2, wipe_length]) fun j hj => by rw [hout j fun z => hj (hts j z), wipe_out hj]
    refine ⟨hw, ?_⟩
    simp only [tYes, if_true]
    intro s' H0' C' cl' fp'
    refine (hb s' H0' C' cl' fp').2 E3 _ fun p vs G4 H4 E4 g4 hp r4 => ?_
    have hD4 : H4 D = some (.lst (as.map V.ref)) := E4.gw.h D _ hBD
    have hDp : D ≠ p := ne_of_none hD4 hp
    have hBp : B p = none := E4.gw.h.back hp
    have hG4p : G4 p = none := E4.s.back hp
    have hG4D : G4 D = none := E4.gw.m D _ hBD g0D
    refine ⟨as.map V.ref, by rw [upd_ne hDp]; exact hD4, ?_, L2.upd (L2.upd B D (.lst (as.map V.ref ++ [.ref p]))) p (.lst vs), G4, as ++ [p], ?_, (g1.trans gw.g).trans g4, ?_, ?_, ?_, ?_, ?_⟩
    · rw [List.length_map, ra.len, List.length_take]
      exact Nat.lt_of_le_of_lt (show _ ≤ 100000 by omega) (by decide)
    · have E5 := en_wipe E4 (own.map (·.2))
      rw [hw, hm'] at E5
      refine E5.rebase (fun b o hb => ?_) (fun b o hb => ?_) (fun b o hb hn => ?_) fun b o hb ho => ?_
      · by_cases q1 : b = p
        · subst q1; rw [upd_same] at hb; cases hb; rw [upd_ne (Ne.symm hDp), upd_same]
        · rw [upd_ne q1] at hb
          by_cases q2 : b = D
          · subst q2; rw [upd_same] at hb; cases hb; rw [upd_same]
          · rw [upd_ne q2] at hb; rw [upd_ne q2, upd_ne q1]; exact E4.gw.h b o hb
      · have n1 : b ≠ D := ne_of_none hb hG4D
        have n2 : b ≠ p := ne_of_none hb hG4p
        rw [upd_ne n1, upd_ne n2]; exact E4.s b o hb
      · by_cases q1 : b = p
        · subst q1; exact hG4p
        · rw [upd_ne q1] at hb
          by_cases q2 : b = D
          · subst q2; exact hG4D
          · rw [upd_ne q2] at hb; exact E4.gw.m b o hb hn
      · have n1 : b ≠ D := fun z => by rw [z, hBD] at hb; cases hb
        have n2 : b ≠ p := ne_of_none ho hp
        exact ⟨by rw [upd_ne n2, upd_ne n1]; exact hb, by rw [upd_ne n1, upd_ne n2]; exact ho⟩
    · exact (eB.put h0D).put (eB.back hBp)
    · rw [upd_ne hDp, upd_same, List.map_append]; rfl
    · rw [take_more hyi]
      refine RowsB.app upd_same r4 (RowsB.mono (gw.g.trans g4) (fun a ha => ?_) ra)
      have n1 : a ≠ D := fun z => by subst z; exact (List.nodup_cons.mp nd).1 ha
      have n2 : a ≠ p := fun z => by
        obtain ⟨o, ho⟩ := ra.mem a ha
        rw [z, hBp] at ho; cases ho
      rw [upd_ne n2, upd_ne n1]
    · have n2 : p ∉ D :: as := fun hm => by
        rcases List.mem_cons.mp hm with z | z
        · exact hDp z.symm
        · obtain ⟨o, ho⟩ := ra.mem p z
          rw [hBp] at ho; cases ho
      rw [← List.cons_append, List.nodup_append]
      exact ⟨nd, by simp, fun a ha b hb => by rw [List.mem_singleton.mp hb]; exact fun z => n2 (z ▸ ha)⟩
    · intro a ha
      rw [← List.cons_append] at ha
      rcases List.mem_append.mp ha with z | z
      · exact hfr a z
      · rw [List.mem_singleton.mp z]; exact ⟨eB.back hBp, (E4.gw.g.trans E4.s).back hp⟩
  · have e : i = items.length := by omega
    subst e
    refine .inl ⟨(y _ G1 _ g1 E1.s).2 rfl, ?_⟩
    have hwS : wipeS (S items.length) (own.map (·.2)) = S items.length := by
      cases hn : items.length with
      | zero => rw [h0]; exact wipeS_idem
      | succ n =>
        have hn' : n < items.length := by omega
        obtain ⟨m, ts, m', _, hm', _⟩ := turn n items[n] yss[n] (by simp [hn']) (by simp [hlen, hn'])
        rw [← hm']; exact wipeS_idem
    have E6 := en_unwipe E1
    rw [hwS] at E6
    rw [← hlen, List.take_length] at ra
    obtain ⟨fp, k1, k3, k4⟩ := E6.own
    refine kk _ G1 H3 ⟨⟨E6.gw.g, eB.trans E6.gw.h, E6.s, fun a o ha hn => E6.gw.m a o (eB a o ha) hn⟩, by rw [List.length_set, List.length_set, E6.len], fun l => if l = j then D :: as else fp l, fun l => ?_, fun l n a ha hb => ?_, fun l a ha => ?_⟩ (g.trans g1)
    · by_cases q : l = j
      · subst q
        show SlotIs X.K G1 H3 _ _ l (if l = l then D :: as else fp l)
        rw [if_pos rfl]
        exact .of (List.getElem?_set_self hlj) (List.getElem?_set_self (by rw [E6.len]; exact hlj)) ⟨D, as, rfl, rfl, E6.gw.m D _ hBD g0D, E6.gw.h D _ hBD, nd, ra.rows (H₀ := G₀) (fun a o h1 h2 => E6.gw.m a o h1 h2) E6.gw.h fun a ha => (hfr a (List.mem_cons_of_mem _ ha)).2⟩
      · show SlotIs X.K G1 H3 _ _ l (if l = j then D :: as else fp l)
        rw [if_neg q]
        exact (k1 l).at (List.getElem?_set_ne (Ne.symm q)) (List.getElem?_set_ne (Ne.symm q))
    · have inB : ∀ b ∈ D :: as, ∃ o, B b = some o := fun b hb => by
        rcases List.mem_cons.mp hb with z | z
        · subst z; exact ⟨_, hBD⟩
        · exact ra.mem b z
      by_cases ql : l = j
      · by_cases qn : n = j
        · rw [ql, qn]
        · simp only [if_pos ql] at ha
          simp only [if_neg qn] at hb
          obtain ⟨o, ho⟩ := inB a ha
          rw [k4 n a hb] at ho; cases ho
      · by_cases qn : n = j
        · simp only [if_neg ql] at ha
          simp only [if_pos qn] at hb
          obtain ⟨o, ho⟩ := inB a hb
          rw [k4 l a ha] at ho; cases ho
        · simp only [if_neg ql] at ha
          simp only [if_neg qn] at hb
          exact k3 l n a ha hb
    · by_cases ql : l = j
      · simp only [if_pos ql] at ha
        exact (hfr a ha).1
      · simp only [if_neg ql] at ha
        exact eB.back (k4 l a ha)
end
end Ewl

set_option maxRecDepth 100000
set_option maxHeartbeats 2000000
/-! Rows changed; frozen. -/
namespace Ewl
open PySem L2
section
variable {K : PySem.W.Frag} {G₀ H₀ G H G' H' : Hp} {σ : L2.St} {sls : List Sl}
theorem Rows.get : ∀ {as : List Addr} {xss : List (List PyData)} {n : Nat} {xs : List PyData}, Rows K G H as xss → xss[n]? = some xs → ∃ a vs, as[n]? = some a ∧ G a = none ∧ H a = some (.lst vs) ∧ DdAll K G vs xs
  | [], [], n, xs, _, h => by simp at h
  | a :: as, x :: xss, 0, xs, ⟨n, ⟨vs, h1, h2⟩, _⟩, h => by simp at h; subst h; exact ⟨a, vs, rfl, n, h1, h2⟩
  | a :: as, x :: xss, k + 1, xs, ⟨_, _, r⟩, h => by
    obtain ⟨b, vs, h1, h2⟩ := Rows.get r (n := k) (xs := xs) (by simpa using h)
    exact ⟨b, vs, by simpa using h1, h2⟩
  | [], _ :: _, _, _, r, _ => r.elim
  | _ :: _, [], _, _, r, _ => r.elim
theorem Rows.set {b : Addr} {ws : List V} {ys : List PyData} (hy : DdAll K G ws ys) : ∀ {as : List Addr} {xss : List (List PyData)} {n : Nat}, as.Nodup → as[n]? = some b → Rows K G H as xss → Rows K G (L2.upd H b (.lst ws)) as (xss.set n ys)
  | [], [], n, _, h, _ => by simp at h
  | a :: as, x :: xss, 0, nd, h, ⟨n, ⟨vs, h1, h2⟩, r⟩ => by
    simp at h
    subst h
    refine ⟨n, ⟨ws, upd_same, hy⟩, Rows.mono (Ex.refl G) (fun c hc o ho => ⟨?_, fun z => z⟩) r⟩
    rw [upd_ne (show c ≠ a from fun z => (List.nodup_cons.mp nd).1 (by rw [← z]; exact hc))]; exact ho
  | a :: as, x :: xss, k + 1, nd, h, ⟨n, ⟨vs, h1, h2⟩, r⟩ => by
    have h' : as[k]? = some b := by simpa using h
    have hb : b ∈ as := List.mem_of_getElem? h'
    refine ⟨n, ⟨vs, ?_, h2⟩, Rows.set hy (List.nodup_cons.mp nd).2 h' r⟩
    rw [upd_ne (show a ≠ b from fun z => (List.nodup_cons.mp nd).1 (by rw [z]; exact hb))]; exact h1
  | [], _ :: _, _, _, _, r => r.elim
  | _ :: _, [], _, _, _, r => r.elim
theorem En.getLL (E : En K G₀ H₀ G H σ sls) {i : Nat} {xss : List (List PyData)} (h : sls[i]? = some (.ll xss)) : ∃ a as, σ[i]? = some (some (.ref a)) ∧ G a = none ∧ H a = some (.lst (as.map V.ref)) ∧ (a :: as).Nodup ∧ Rows K G H as xss ∧ ∀ b ∈ a :: as, H₀ b = none := by
  obtain ⟨fp, h1, _, h4⟩ := E.own
  obtain ⟨v, e, ok⟩ := (h1 i).to h (by simp)
  obtain ⟨a, as, e1, e2, n, ho, nd, r⟩ := ok
  subst e2
  exact ⟨a, as, e, n, ho, nd, r, fun b hb => h4 i b (by rw [e1]; exact hb)⟩
theorem En.putLL (E : En K G₀ H₀ G H σ sls) {i n : Nat} {xss : List (List PyData)} {a b : Addr} {as : List Addr} {ws : List V} {ys : List PyData} (h : sls[i]? = some (.ll xss)) (hv : σ[i]? = some (some (.ref a))) (ha : H a = some (.lst (as.map V.ref))) (hb : as[n]? = some b) (hy : DdAll K G ws ys) :
    En K G₀ H₀ G (L2.upd H b (.lst ws)) σ (sls.set i (.ll (xss.set n ys))) := by
  have hi : i < sls.length := (List.getElem?_eq_some_iff.mp h).1
  obtain ⟨a', as', e, gn, ha', nd, r, h0⟩ := E.getLL h
  rw [hv] at e
  cases e
  rw [ha] at ha'
  have eas : as = as' := by
    have q := HO.lst.inj (Option.some.inj ha')
    exact (List.map_inj_right (fun x y z => V.ref.inj z)).mp q
  subst eas
  have hbm : b ∈ as := List.mem_of_getElem? hb
  have hba : b ≠ a := fun z => (List.nodup_cons.mp nd).1 (by rw [← z]; exact hbm)
  have gb : G b = none := (r.free b hbm).1
  have q := E.upd (v := .ref a) (s := .ll (xss.set n ys)) hi (Ex.refl G) (G' := G) (H' := L2.upd H b (.lst ws)) ⟨E.gw.g, E.gw.h.put (h0 b (List.mem_cons_of_mem _ hbm)), E.s.put gb, E.gw.m⟩ fun fi hf => by
    obtain ⟨v, e, a2, as2, e1, e2, _, ha2, _⟩ := hf.to h (by simp)
    rw [hv] at e
    cases e
    cases e2
    rw [ha] at ha2
    have eas : as = as2 := (List.map_inj_right (fun x y z => V.ref.inj z)).mp (HO.lst.inj (Option.some.inj ha2))
    subst eas
    subst e1
    exact ⟨fun c o nc hc => by rw [upd_ne (show c ≠ b from fun z => nc (by rw [z]; exact List.mem_cons_of_mem _ hbm))]; exact hc, fun _ _ _ _ h => h, a :: as, ⟨a, as, rfl, rfl, gn, by rw [upd_ne (Ne.symm hba)]; exact ha, nd, Rows.set hy (List.nodup_cons.mp nd).2 hb r⟩, fun c hc => .inl hc⟩
  have es : σ.set i (some (.ref a)) = σ := by
    apply List.ext_getElem?
    intro j
    by_cases z : i = j
    · subst z
      rw [List.getElem?_set_self (by rw [E.len]; exact hi), hv]
    · rw [List.getElem?_set_ne z]
  rw [es] at q
  exact q
theorem Rows.frz : ∀ {as : List Addr} {xss : List (List PyData)}, Rows K G H as xss → (g : Ex G G') → (∀ a ∈ as, G' a = H a) → DdAll K G' (as.map V.ref) (xss.map PyData.list)
  | [], [], _, _, _ => .nil
  | a :: as, xs :: xss, ⟨n, ⟨vs, h1, h2⟩, r⟩, g, k => .cons (.lst (SqL.of (by rw [k a List.mem_cons_self]; exact h1)) (dpAll_mono g xs h2)) (Rows.frz r g fun b hb => k b (List.mem_cons_of_mem _ hb))
  | [], _ :: _, r, _, _ => r.elim
  | _ :: _, [], r, _, _ => r.elim
theorem En.frzLL (E : En K G₀ H₀ G H σ sls) {i : Nat} {xss : List (List PyData)} (h : sls[i]? = some (.ll xss)) : ∃ G', Ex G G' ∧ En K G₀ H₀ G' H σ (sls.set i (.d (.list (xss.map PyData.list)))) := by
  have hi : i < sls.length := (List.getElem?_eq_some_iff.mp h).1
  obtain ⟨a, as, hv, gn, ha, nd, r, h0⟩ := E.getLL h
  classical
  have inG : ∀ b ∈ a :: as, G b = none ∧ ∃ o, H b = some o := fun b hb => by
    rcases List.mem_cons.mp hb with z | z
    · subst z; exact ⟨gn, _, ha⟩
    · exact r.free b z
  have eg : Ex G (fun b => if b ∈ a :: as then H b else G b) := fun b o hb => by
    have nb : b ∉ a :: as := fun z => by rw [(inG b z).1] at hb; cases hb
    simp only [if_neg nb]; exact hb
  refine ⟨fun b => if b ∈ a :: as then H b else G b, eg, ?_⟩
  have q := E.upd (v := .ref a) (s := .d (.list (xss.map PyData.list))) hi eg (G' := fun b => if b ∈ a :: as then H b else G b) (H' := H) ⟨E.gw.g.trans eg, E.gw.h, fun b o hb => ?_, fun b o hb n => ?_⟩ fun fi hf => by
    obtain ⟨v, e, a2, as2, e1, e2, _, ha2, _⟩ := hf.to h (by simp)
    rw [hv] at e
    cases e
    cases e2
    rw [ha] at ha2
    have eas : as = as2 := (List.map_inj_right (fun x y z => V.ref.inj z)).mp (HO.lst.inj (Option.some.inj ha2))
    subst eas
    subst e1
    refine ⟨fun _ _ _ h => h, fun b o nb hb n => by simp only [if_neg nb]; exact n, [], ⟨rfl, .lst (SqL.of ?_) (r.frz eg fun b hb => by simp only [if_pos (List.mem_cons_of_mem a hb)])⟩, fun b hb => by cases hb⟩
    simp only [if_pos (List.mem_cons_self (a := a) (l := as))]; exact ha
  · have es : σ.set i (some (.ref a)) = σ := by
      apply List.ext_getElem?
      intro j
      by_cases z : i = j
      · subst z
        rw [List.getElem?_set_self (by rw [E.len]; exact hi), hv]
      · rw [List.getElem?_set_ne z]
    rw [es] at q
    exact q
  · by_cases nb : b ∈ a :: as
    · simp only [if_pos nb] at hb; exact hb
    · simp only [if_neg nb] at hb; exact E.s b o hb
  · have nb : b ∉ a :: as := fun z => by rw [h0 b z] at hb; cases hb
    simp only [if_neg nb]; exact E.gw.m b o hb n
end
section
variable {X : Cx} {a b e ew ep : Expr} {ss : List Stmt} {s0 s1 s2 : List Sl} {d z : PyData} {xss : List (List PyData)} {xs : List PyData} {pos p p2 p3 : Pos} {i w n : Nat} {x : Str} {r : Res}
theorem sv_frzLL (hi : s0[i]? = some (.ll xss)) (h : Sv X ss (s0.set i (.d (.list (xss.map PyData.list)))) r) : Sv X ss s0 r := .mk fun E D k => by
  obtain ⟨G', g, E'⟩ := E.frzLL hi
  exact h E' D (k.back g)
/-- an expression that reads data and leaves the heap as it is -/
structure EvQ (X : Cx) (e : Expr) (sl : List Sl) (d : PyData) : Prop where
  run : ∀ {G₀ H₀ G H : Hp} {σ : L2.St}, En X.K G₀ H₀ G H σ sl → ∀ Q : VK, (∀ v, Dd X.K G v d → Q v H) → W X e σ H Q
instance {X : Cx} {e : Expr} {sl : List Sl} {d : PyData} : CoeFun (EvQ X e sl d) (fun _ => ∀ {G₀ H₀ G H : Hp} {σ : L2.St}, En X.K G₀ H₀ G H σ sl → ∀ Q : VK, (∀ v, Dd X.K G v d → Q v H) → W X e σ H Q) := ⟨fun h => h.run⟩
theorem eq_var {i : Nat} {x : Str} (h : s0[i]? = some (.d d)) (hN : X.N[i]? = some x) (hv : Vis X.env.scope x := by first | exact Or.inl rfl | exact Or.inr (Or.inl rfl) | exact Or.inr (Or.inr rfl))
    (hd : (x == ("__debug__" : Str)) = false := by decide) (hcd : (x == ("__classdict__" : Str)) = false := by decide) : EvQ X (.Name x pos) s0 d := .mk fun {G₀ H₀ G H σ} E Q q => by
  obtain ⟨v, e, r⟩ := E.get h
  exact W.of (pe_var hN hv hd hcd) ⟨v, e, q v r⟩
theorem eq_int {i : Int} {j : Nat} : EvQ X (.Constant (.int i) j pos) s0 (.int i) := .mk fun {G₀ H₀ G H σ} E Q q => W.of pe_int (q _ (.int i))
theorem eq_ixT {ds : List PyData} {k : Int} (ha : EvQ X a s0 (.tuple ds)) (hb : EvQ X b s0 (.int k)) (h : atI ds k = some d) (hs : PlainIx b := by intro _ _; rfl) : EvQ X (.Subscript a b pos) s0 d := .mk fun E Q q =>
  W.of (pe_ix ix_tup pe_W pe_W hs) (ha E _ fun v r1 => hb E _ fun w r2 => by
    cases r2
    cases r1 with
    | tup sl r =>
      obtain ⟨v, e, rv⟩ := atI_dp r h
      exact ⟨_, _, k, v, rfl, rfl, SqT.of (E.s _ _ sl), e, q v rv⟩)
/-- x[w][n] = e -/
theorem st_setLL (hN : X.N[i]? = some x) (he : Ev X e s0 s1 d) (h1 : s1[i]? = some (.ll xss)) (hw : EvQ X ew s1 (.int (w : Nat))) (hp : EvQ X ep s1 (.int (n : Nat))) (hx : xss[w]? = some xs) (hn : n < xs.length) (hv : Vis X.env.scope x := by first | exact Or.inl rfl | exact Or.inr (Or.inl rfl) | exact Or.inr (Or.inr rfl))
    (hd : (x == ("__debug__" : Str)) = false := by decide) (hcd : (x == ("__classdict__" : Str)) = false := by decide) (hpl : PlainIx ew := by intro _ _; rfl)
    (ha : ∀ v, assign (.Subscript (.Subscript (.Name x p) ew p2) ep p3) X.env v = (do
      let ov ← holding [v] (eval (.Subscript (.Name x p) ew p2) X.env)
      let iv ← holding [v, ov] (eval ep X.env)
      standAt p3
      holding [v, ov, iv] (setItem ov iv v)
      release [v, ov, iv] []) := by intro _; rfl)
    (hs : swapsWithSole [.Subscript (.Subscript (.Name x p) ew p2) ep p3] e pos.line X.env = pure false := by rfl) (hsw : swappedStores [.Subscript (.Subscript (.Name x p) ew p2) ep p3] e X.env = pure none := by rfl)
    (h1a : (assignEach [.Subscript (.Subscript (.Name x p) ew p2) ep p3] X.env).map (·.2) = [assign (.Subscript (.Subscript (.Name x p) ew p2) ep p3) X.env] := by rfl) :
    St1 X (.Assign [.Subscript (.Subscript (.Name x p) ew p2) ep p3] e pos) s0 (.nx (s1.set i (.ll (xss.set w (xs.set n d))))) := .mk fun {G₀ H₀ G H σ} E D kk => by
  refine WS.of (ps_asg pe_W (pg_sub (pe_ix ix_list (pe_var hN hv hd hcd) pe_W hpl) pe_W set_list ha) hs hsw h1a) (he E _ fun v G1 H1 E1 g1 r1 => ?_)
  obtain ⟨l, as, hσ, gn, hl, nd, rows, _⟩ := E1.getLL h1
  refine ⟨_, hσ, hw E1 _ fun vw r2 => ?_⟩
  cases r2
  obtain ⟨c, vs, hc, gc, hHc, rvs⟩ := rows.get hx
  refine ⟨l, as.map V.ref, (w : Nat), .ref c, rfl, rfl, SqL.of hl, at_nat (by rw [List.getElem?_map, hc]; rfl), ?_⟩
  refine hp E1 _ fun vp r3 => ?_
  cases r3
  have hlen := dpAll_len rvs
  have hcl : ¬ ((n : Int) < 0) := by omega
  refine ⟨c, vs, (n : Nat), n, rfl, rfl, hHc, ?_, ?_⟩
  · rw [hlen]
    unfold ixN
    rw [if_pos (by omega), if_pos (by omega)]
    simp
  · exact kk σ G1 _ (E1.putLL h1 hσ hl hc (dpAll_set r1 n rvs)) g1
end
end Ewl

set_option maxRecDepth 100000
set_option maxHeartbeats 2000000
/-! enumerate and zip over tuples. -/
namespace Ewl
open PySem L2 RZ
open Sem (wp)
set_option maxHeartbeats 4000000 in
theorem meets_enum1 {v : Value} {o : Obj} {H : Heap → Prop} (B : Begins v o H) :
    Meets (Builtin.«enumerate.__new__» ⟨[.type "enumerate", v], []⟩) (fun _ R s => H s.heap ∧
      R (.ok (.ret (.ref (s.heap.push o).objs.size))) { s with heap := (s.heap.push o).push { cls := .type "enumerate", data := .fields #[.none, .bool false, .ref s.heap.objs.size, rawInt 0, .none, .none] } }) :=
  .of_wp fun prog w A R s h => by
    obtain ⟨hp, g, d, tk, os⟩ := s; obtain ⟨h1, h⟩ := h
    have hsub := sub_enumerate
    have q1 : ∀ {A' : Around} {E : Value → Shared → Prop} {Q : Value → Shared → Prop}, Q (.ref hp.objs.size) ⟨hp.push o, g, d, tk, os⟩ → wpAny (model prog w) A' (pyIter v) Q E ⟨hp, g, d, tk, os⟩ :=
      fun q => B.iter prog w _ _ ⟨hp, g, d, tk, os⟩ _ h1 q
    wp_walk using q1
    refine wpAny_stack_any fun st => wpAny_pure ?_
    split
    · rename_i c _ _ _ _ _
      cases (c == Value.type "enumerate")
      · wp_walk using q1
        exact ⟨_, rfl, h⟩
      · wp_walk using q1
        exact ⟨_, rfl, h⟩
    · wp_walk using q1
      exact ⟨_, rfl, h⟩
theorem call_enum1 {prog : Program} {w : World} {A : Around} {E : Value → Shared → Prop} {s : Shared} {v : Value} {o : Obj} {H : Heap → Prop} {Q : Value → Shared → Prop} (B : Begins v o H) (h1 : H s.heap)
    (h : ∀ h', IsEnum h' (s.heap.objs.size + 1) s.heap.objs.size 0 .none → h'.get? s.heap.objs.size = some o → h'.objs.size = s.heap.objs.size + 2 →
      (∀ b o, s.heap.get? b = some o → h'.get? b = some o) → Q (.ref (s.heap.objs.size + 1)) { s with heap := h' }) :
    wpAny (model prog w) A (call (.type "enumerate") [v]) Q E s := by
  refine callType_new F.called_enumerate (by decide) (F.typeCall_enumerate_1 _) (F.newCall_enumerate_1 _) (fun obj => F.args_object_init_2 obj _) F.entry_enumerate_new
    (meets_enum1 B) ⟨h1, ?_⟩
  have hz : (s.heap.push o).objs.size = s.heap.objs.size + 1 := Heap.size_push ..
  show _ ∧ _
  rw [hz]
  have he : IsEnum ((s.heap.push o).push { cls := .type "enumerate", data := .fields #[.none, .bool false, .ref s.heap.objs.size, rawInt 0, .none, .none] }) (s.heap.objs.size + 1) s.heap.objs.size 0 .none := by
    have := Heap.get?_push_size (s.heap.push o) (o := { cls := .type "enumerate", data := .fields #[.none, .bool false, .ref s.heap.objs.size, rawInt 0, .none, .none] }) rfl
    rw [hz] at this; exact this
  refine ⟨⟨_, he, rfl⟩, h _ he (Heap.get?_push_of_some _ (Heap.get?_push_size _ B.free)) (by rw [Heap.size_push, hz]) fun b o x => Heap.get?_push_of_some _ (Heap.get?_push_of_some _ x)⟩

/-- a tuple's items, counted -/
def IteT (K : PySem.W.Frag) (a : Addr) : It :=
  ⟨fun i H => ∃ (xs : List V) (x : V), SqT K H a xs ∧ xs[i]? = some x, fun i H v H' => ∃ T x, v = .ref T ∧ H T = none ∧ H' = upd H T (.tup [.int (i : Nat), x]) ∧ ∀ xs, SqT K H a xs → xs[i]? = some x, fun i H => ∃ xs : List V, SqT K H a xs ∧ xs.length = i⟩
theorem turn_enumT {P : Program} {w : World} {K : PySem.W.Frag} {elts : List Expr} {kk : Nat} {tpos : Pos} (a e it : Addr) (D : a ≠ it ∧ a ≠ e) :
    Turn P w K (.Tuple elts kk tpos) (IteT K a) [e, it] e (fun i h => (∃ old, IsEnum h e it ((i : Nat) : Int) old) ∧ h.IsTupleIter it a i ∧ e ≠ it) where
  mem := by simp
  obj := fun i h st b hb => by
    obtain ⟨⟨old, he⟩, ⟨o, ho, hc, hd⟩, _⟩ := st
    have e' : b = e ∨ b = it := by simpa using hb
    rcases e' with z | z
    · rw [z]; exact ⟨_, he, fun v q => nomatch q⟩
    · rw [z]; exact ⟨o, ho, fun v q => by rw [hd] at q; cases q⟩
  keep := fun i h h' st k => let ⟨⟨old, he⟩, hi, hne⟩ := st; ⟨⟨old, k e (by simp) _ he⟩, hi.at fun o q => k it (by simp) o q, hne⟩
  item := by
    intro X hP hw hK hc i pins s σ H E I hf st hg
    subst hP hw hK
    obtain ⟨⟨old, he⟩, hit, hne⟩ := st
    obtain ⟨xs, x, hq, hx⟩ := hg
    obtain ⟨its, rv, p, hz⟩ := I.tuple hq
    obtain ⟨u, hu, ru⟩ := rv.get hx
    have hel : e < s.heap.objs.size := Heap.lt_size he
    have hil : it < s.heap.objs.size := by obtain ⟨_, q, _⟩ := hit; exact Heap.lt_size q
    have hlt : i < its.toArray.size := by
      have := (List.getElem?_eq_some_iff.mp hu).1
      simpa using this
    refine wpAny_pyNext_enum_itemC (Draws.tuple (A := X.A.in1) (I.ok.hd hc) it a D.1 its.toArray) he ⟨hit, p⟩ hlt hne (by simp [hne, Ne.symm D.2]) fun x' h' tk hx' ho ⟨hit', _⟩ hT hsz hk => ?_
    have ex' : x' = u := by
      have : its.toArray[i]? = some u := by simpa using hu
      rw [this] at hx'; exact (Option.some.inj hx').symm
    subst ex'
    refine ⟨_, rfl, wpAny_letOwnedTupleGo_enum (s := { s with heap := h', toks := tk + 1 }) ho fun h'' he' sb => ?_⟩
    have hT2 : h''.get? s.heap.objs.size = some { cls := .type "tuple", data := .seq #[.int i tk, x'] } := (sb.2 _ (Nat.ne_of_gt hel)).trans hT
    have new : ObjOk X.prog X.w (upd H s.heap.objs.size (.tup [.int (i : Nat), x])) h'' s.heap.objs.size (.tup [.int (i : Nat), x]) :=
      ⟨by show 2 ≤ sizeLine; decide, [.int i tk, x'], .cons ⟨_, rfl⟩ (.cons ru .nil), ⟨_, hT2, rfl, _, rfl⟩⟩
    have I1 : Inv X pins σ (upd H s.heap.objs.size (.tup [.int (i : Nat), x])) { s with heap := h'', toks := tk + 1 } :=
      I.turnedNew (ch := [e, it]) (fun b ob hb q => (sb.2 b (fun z => hb (by simp [z]))).trans (hk b ob (fun z => hb (by simp [z])) (fun z => hb (by simp [z])) q)) hf (Nat.le_refl _) new
    refine ⟨.ref s.heap.objs.size, _, I1, rfl, ⟨_, x, rfl, I.hok.fresh (Nat.le_refl _), rfl, fun ys hy => by rw [I.tuple_inj hy hq]; exact hx⟩, ⟨⟨x', ?_⟩, hit'.at fun o q => (sb.2 it (Ne.symm hne)).trans q, hne⟩, fun b hb => ?_⟩
    · have e1 : ((i + 1 : Nat) : Int) = (i : Int) + 1 := by omega
      rw [e1]; exact he'
    · have hb' : b < s.heap.objs.size := by
        have e' : b = e ∨ b = it := by simpa using hb
        rcases e' with z | z
        · rw [z]; exact hel
        · rw [z]; exact hil
      rw [upd_ne (Nat.ne_of_lt hb')]
      exact (hf b hb).1
  done := by
    intro X hP hw hK hc i pins s σ H E I hf st hg
    subst hP hw hK
    obtain ⟨⟨old, he⟩, hit, hne⟩ := st
    obtain ⟨xs, hq, hx⟩ := hg
    obtain ⟨its, rv, p, hz⟩ := I.tuple hq
    obtain ⟨f0, f1, f2, f3, f4, f5⟩ := hf it (by simp)
    have hl := rv.length
    have hi : i = its.toArray.size := by simp; omega
    subst hi
    exact wpAny_pyNext_enum_endD (Draws.tuple (A := X.A.in1) (I.ok.hd hc) it a D.1 its.toArray) he ⟨hit, p⟩ fun h' eb => ⟨rfl, I.turned (t' := s.toks) (fun b o hb q => eb b o hb q) f0 f1 f3 f4 f5⟩
  self := fun A i s Q E st h => let ⟨⟨_, he⟩, _⟩ := st; wpAny_pyIter_enum he h
def iEnumT (K : PySem.W.Frag) (ta : TA) : TI := fun σ H R => ta σ H fun vs H1 => ∃ a xs, vs = [.ref a] ∧ SqT K H1 a xs ∧ R (IteT K a) H1
theorem pi_enumT {X : Cx} {e : Expr} {ta : TA} {p pos tpos : Pos} {elts : List Expr} {kk : Nat} (hg : Gl X "enumerate") (hm : X.mg "enumerate" = none) (ha : PA X [e] ta) (hs : starEach [e] X.env = [(false, eval e X.env)] := by rfl) :
    PI X (.Tuple elts kk tpos) (.Call (.Name "enumerate" p) [e] [] pos) (iEnumT X.K ta) := by
  refine ⟨fun pins s σ H R I h => ?_⟩
  refine PyProof.Rows.Call_ (ld_blt I hg hm PyProof.Rows.boot_enumerate (PyProof.Rows.callWith_type1 (thn (ha.run pos pins s σ H _ I h) fun us s1 ⟨vs, H1, I1, r1, q1⟩ => ?_) hs rfl))
  obtain ⟨a, xs, ex, hq, q⟩ := q1
  subst ex
  cases r1 with
  | cons r rr =>
    cases rr
    cases r
    obtain ⟨its, rv, p', hz⟩ := I1.tuple hq
    obtain ⟨oa, hoa, _⟩ := id p'
    have hlt : a < s1.heap.objs.size := Heap.lt_size hoa
    refine call_enum1 (begins_tuple a its.toArray) p' fun h' he hit hsz hk => wpAny_pyIter_enum he ?_
    have I2 : Inv X pins σ H1 { s1 with heap := h' } := I1.kept (t' := s1.toks) hk
    refine ⟨s1.heap.objs.size + 1, [s1.heap.objs.size + 1, s1.heap.objs.size], _, _, H1, rfl, I2, turn_enumT a (s1.heap.objs.size + 1) s1.heap.objs.size ⟨Nat.ne_of_lt hlt, Nat.ne_of_lt (Nat.lt_succ_of_lt hlt)⟩, ⟨⟨.none, he⟩, ⟨_, hit, rfl, rfl⟩, Nat.succ_ne_self _⟩, fun b hb => ?_, q⟩
    have e' : b = s1.heap.objs.size + 1 ∨ b = s1.heap.objs.size := by simpa using hb
    have hle : s1.heap.objs.size ≤ b := by
      rcases e' with z | z
      · rw [z]; exact Nat.le_add_right _ _
      · rw [z]; exact Nat.le_refl _
    exact I1.fpOk hle (I1.hok.fresh hle)

/-- three tuples, item by item -/
def Itz3 (K : PySem.W.Frag) (a b c : Addr) : It :=
  ⟨fun i H => ∃ (xs ys zs : List V) (x y z : V), SqT K H a xs ∧ SqT K H b ys ∧ SqT K H c zs ∧ xs[i]? = some x ∧ ys[i]? = some y ∧ zs[i]? = some z,
    fun i H v H' => ∃ T x y z, v = .ref T ∧ H T = none ∧ H' = upd H T (.tup [x, y, z]) ∧ (∀ xs, SqT K H a xs → xs[i]? = some x) ∧ (∀ ys, SqT K H b ys → ys[i]? = some y) ∧ ∀ zs, SqT K H c zs → zs[i]? = some z,
    fun i H => ∃ xs ys zs : List V, SqT K H a xs ∧ SqT K H b ys ∧ SqT K H c zs ∧ xs.length = i ∧ ys.length = i ∧ zs.length = i⟩
theorem turn_zip3 {P : Program} {w : World} {K : PySem.W.Frag} {elts : List Expr} {kk : Nat} {tpos : Pos} {a b c z TI TO i1 i2 i3 : Addr} (S : ZipSep3 z TI TO i1 i2 i3 [i1, a] [i2, b] [i3, c]) (d1 : a ≠ i1) (d2 : b ≠ i2) (d3 : c ≠ i3) :
    Turn P w K (.Tuple elts kk tpos) (Itz3 K a b c) [z, TI, TO, i1, i2, i3] z (fun i h => IsZip h z TI TO .none ∧ IsTupOf3 h TI (.ref i1) (.ref i2) (.ref i3) ∧ (∃ x y u, IsTupOf3 h TO x y u) ∧ h.IsTupleIter i1 a i ∧ h.IsTupleIter i2 b i ∧ h.IsTupleIter i3 c i) where
  mem := by simp
  obj := fun i h st q hq => by
    obtain ⟨hz, hTI, ⟨x, y, u, hTO⟩, ⟨o1, e1, _, d1⟩, ⟨o2, e2, _, d2⟩, ⟨o3, e3, _, d3⟩⟩ := st
    have e' : q = z ∨ q = TI ∨ q = TO ∨ q = i1 ∨ q = i2 ∨ q = i3 := by simpa using hq
    rcases e' with q | q | q | q | q | q
    · rw [q]; exact ⟨_, hz, fun v q => nomatch q⟩
    · rw [q]; exact ⟨_, hTI, fun v q => nomatch q⟩
    · rw [q]; exact ⟨_, hTO, fun v q => nomatch q⟩
    · rw [q]; exact ⟨o1, e1, fun v q => by rw [d1] at q; cases q⟩
    · rw [q]; exact ⟨o2, e2, fun v q => by rw [d2] at q; cases q⟩
    · rw [q]; exact ⟨o3, e3, fun v q => by rw [d3] at q; cases q⟩
  keep := fun i h h' st k => by
    obtain ⟨hz, hTI, ⟨x, y, u, hTO⟩, h1, h2, h3⟩ := st
    exact ⟨k z (by simp) _ hz, k TI (by simp) _ hTI, ⟨x, y, u, k TO (by simp) _ hTO⟩, h1.at fun o q => k i1 (by simp) o q, h2.at fun o q => k i2 (by simp) o q, h3.at fun o q => k i3 (by simp) o q⟩
  item := by
    intro X hP hw hK hc i pins s σ H E I hf st hg
    subst hP hw hK
    obtain ⟨hz, hTI, ⟨x0, y0, u0, hTO⟩, h1, h2, h3⟩ := st
    obtain ⟨xs, ys, zs, x, y, u, hqx, hqy, hqz, hx, hy, hu⟩ := hg
    obtain ⟨its, rv, p, _⟩ := I.tuple hqx
    obtain ⟨its2, rv2, p2, _⟩ := I.tuple hqy
    obtain ⟨its3, rv3, p3, _⟩ := I.tuple hqz
    obtain ⟨v1, hv1, ru1⟩ := rv.get hx
    obtain ⟨v2, hv2, ru2⟩ := rv2.get hy
    obtain ⟨v3, hv3, ru3⟩ := rv3.get hu
    have hzl : z < s.heap.objs.size := Heap.lt_size hz
    have sz : ∀ {l : List Value} {v : Value}, l[i]? = some v → i < l.toArray.size := fun e => by
      have := (List.getElem?_eq_some_iff.mp e).1
      simpa using this
    have eqv : ∀ {l : List Value} {v x : Value}, l[i]? = some v → l.toArray[i]? = some x → x = v := fun e e' => by
      have : _ = some _ := e'
      rw [List.getElem?_toArray, e] at this
      exact (Option.some.inj this).symm
    refine wpAny_pyNext_zipD3_item S (Draws.tuple (A := X.A.in1) (I.ok.hd hc) i1 a d1 its.toArray) (Draws.tuple (A := X.A.in1) (I.ok.hd hc) i2 b d2 its2.toArray) (Draws.tuple (A := X.A.in1) (I.ok.hd hc) i3 c d3 its3.toArray)
      hz hTI hTO ⟨h1, p⟩ ⟨h2, p2⟩ ⟨h3, p3⟩ (sz hv1) (sz hv2) (sz hv3) fun x1 x2 x3 h' tk y1 y2 y3 z' TO' ⟨h1', _⟩ ⟨h2', _⟩ ⟨h3', _⟩ hT hsz hk => ?_
    have e1 := eqv hv1 y1
    have e2 := eqv hv2 y2
    have e3 := eqv hv3 y3
    subst e1 e2 e3
    refine ⟨_, rfl, wpAny_letOwnedTupleGo_zip (s := { s with heap := h', toks := tk }) z' fun h'' z'' sb => ?_⟩
    have hT2 : h''.get? s.heap.objs.size = some { cls := .type "tuple", data := .seq #[x1, x2, x3] } := (sb.2 _ (Nat.ne_of_gt hzl)).trans hT
    have new : ObjOk X.prog X.w (upd H s.heap.objs.size (.tup [x, y, u])) h'' s.heap.objs.size (.tup [x, y, u]) :=
      ⟨by show 3 ≤ sizeLine; decide, [x1, x2, x3], .cons ru1 (.cons ru2 (.cons ru3 .nil)), ⟨_, hT2, rfl, _, rfl⟩⟩
    have I1 : Inv X pins σ (upd H s.heap.objs.size (.tup [x, y, u])) { s with heap := h'', toks := tk } :=
      I.turnedNew (t' := tk) (ch := [z, TI, TO, i1, i2, i3]) (fun c o hb q => (sb.2 c (fun q' => hb (by simp [q']))).trans (hk c o (fun q' => hb (by simp [q'])) (fun q' => hb (by simp [q'])) (fun q' => hb (by simp [q'])) (fun q' => hb (by simp [q'])) (fun q' => hb (by simp [q'])) q)) hf (Nat.le_refl _) new
    refine ⟨.ref s.heap.objs.size, _, I1, rfl, ⟨_, x, y, u, rfl, I.hok.fresh (Nat.le_refl _), rfl, fun l hl => by rw [I.tuple_inj hl hqx]; exact hx, fun l hl => by rw [I.tuple_inj hl hqy]; exact hy, fun l hl => by rw [I.tuple_inj hl hqz]; exact hu⟩, ⟨z'', ?_, ⟨x1, x2, x3, ?_⟩, ?_, ?_, ?_⟩, fun c hcm => ?_⟩
    · exact (sb.2 _ S.TIz).trans (hk _ _ S.TIz S.TITO S.TIi1 S.TIi2 S.TIi3 hTI)
    · exact (sb.2 _ S.TOz).trans TO'
    · exact h1'.at fun o q => (sb.2 _ (Ne.symm S.zi1)).trans q
    · exact h2'.at fun o q => (sb.2 _ (Ne.symm S.zi2)).trans q
    · exact h3'.at fun o q => (sb.2 _ (Ne.symm S.zi3)).trans q
    · have hlt : c < s.heap.objs.size := by
        have e' : c = z ∨ c = TI ∨ c = TO ∨ c = i1 ∨ c = i2 ∨ c = i3 := by simpa using hcm
        rcases e' with q | q | q | q | q | q
        · rw [q]; exact hzl
        · rw [q]; exact Heap.lt_size hTI
        · rw [q]; exact Heap.lt_size hTO
        · rw [q]; obtain ⟨_, e1, _⟩ := h1; exact Heap.lt_size e1
        · rw [q]; obtain ⟨_, e2, _⟩ := h2; exact Heap.lt_size e2
        · rw [q]; obtain ⟨_, e3, _⟩ := h3; exact Heap.lt_size e3
      rw [upd_ne (Nat.ne_of_lt hlt)]
      exact (hf c hcm).1
  done := by
    intro X hP hw hK hc i pins s σ H E I hf st hg
    subst hP hw hK
    obtain ⟨hz, hTI, ⟨x0, y0, u0, hTO⟩, h1, h2, h3⟩ := st
    obtain ⟨xs, ys, zs, hqx, hqy, hqz, l1, l2, l3⟩ := hg
    obtain ⟨its, rv, p, _⟩ := I.tuple hqx
    obtain ⟨its2, rv2, p2, _⟩ := I.tuple hqy
    obtain ⟨its3, rv3, p3, _⟩ := I.tuple hqz
    have m1 := rv.length
    have m2 := rv2.length
    have m3 := rv3.length
    exact wpAny_pyNext_zipD3_end S (Draws.tuple (A := X.A.in1) (I.ok.hd hc) i1 a d1 its.toArray) (Draws.tuple (A := X.A.in1) (I.ok.hd hc) i2 b d2 its2.toArray) (Draws.tuple (A := X.A.in1) (I.ok.hd hc) i3 c d3 its3.toArray)
      hz hTI hTO ⟨h1, p⟩ ⟨h2, p2⟩ ⟨h3, p3⟩ (by simp; omega) (by simp; omega) (by simp; omega) (.inl (by simp; omega)) fun h' tk hk => ⟨rfl, I.turnedL (t' := tk) (ch := [z, TI, TO, i1, i2, i3]) (fun c o hb q =>
        hk c o (fun q' => hb (by simp [q'])) (fun q' => hb (by simp [q'])) (fun q' => hb (by simp [q'])) (fun q' => hb (by simp [q'])) (fun q' => hb (by simp [q'])) q) hf⟩
  self := fun A i s Q E st h => wpAny_pyIter_zip st.1 h
def iZip3 (K : PySem.W.Frag) (ta : TA) : TI := fun σ H R => ta σ H fun vs H1 => ∃ a b c xs ys zs, vs = [.ref a, .ref b, .ref c] ∧ SqT K H1 a xs ∧ SqT K H1 b ys ∧ SqT K H1 c zs ∧ R (Itz3 K a b c) H1
theorem pi_zip3 {X : Cx} {e e2 e3 : Expr} {ta : TA} {p pos tpos : Pos} {elts : List Expr} {kk : Nat} (hg : Gl X "zip") (hm : X.mg "zip" = none) (ha : PA X [e, e2, e3] ta)
    (hs : starEach [e, e2, e3] X.env = (false, eval e X.env) :: starEach [e2, e3] X.env := by rfl) (hpl : (backTo pos (starEach [e2, e3] X.env)).any (·.1) = false := by rfl) :
    PI X (.Tuple elts kk tpos) (.Call (.Name "zip" p) [e, e2, e3] [] pos) (iZip3 X.K ta) := by
  refine ⟨fun pins s σ H R I h => ?_⟩
  refine PyProof.Rows.Call_ (ld_blt I hg hm PyProof.Rows.boot_zip (PyProof.Rows.callWith_type1 (thn (ha.run pos pins s σ H _ I h) fun us s1 ⟨vs, H1, I1, r1, q1⟩ => ?_) hs hpl))
  obtain ⟨a, b, c, xs, ys, zs, ex, hqx, hqy, hqz, q⟩ := q1
  subst ex
  cases r1 with
  | cons r rr =>
    cases rr with
    | cons r' rr =>
      cases rr with
      | cons r'' rr =>
        cases rr
        cases r
        cases r'
        cases r''
        obtain ⟨its, rv, p1, _⟩ := I1.tuple hqx
        obtain ⟨its2, rv2, p2, _⟩ := I1.tuple hqy
        obtain ⟨its3, rv3, p3, _⟩ := I1.tuple hqz
        obtain ⟨o1, ho1, _⟩ := id p1
        obtain ⟨o2, ho2, _⟩ := id p2
        obtain ⟨o3, ho3, _⟩ := id p3
        have lt1 : a < s1.heap.objs.size := Heap.lt_size ho1
        have lt2 : b < s1.heap.objs.size := Heap.lt_size ho2
        have lt3 : c < s1.heap.objs.size := Heap.lt_size ho3
        refine zip_begins3 (begins_tuple a its.toArray) (begins_tuple b its2.toArray) (begins_tuple c its3.toArray) p1 p2 p3 fun h' hz hTI hTO g1 g2 g3 hsz hk => wpAny_pyIter_zip hz ?_
        have I2 : Inv X pins σ H1 { s1 with heap := h' } := I1.kept (t' := s1.toks) hk
        refine ⟨s1.heap.objs.size + 5, [s1.heap.objs.size + 5, s1.heap.objs.size + 3, s1.heap.objs.size + 4, s1.heap.objs.size, s1.heap.objs.size + 1, s1.heap.objs.size + 2], _, _, H1, rfl, I2,
          turn_zip3 (zip_sep3 (fp1 := [a]) (fp2 := [b]) (fp3 := [c]) (fun x hx => by rw [List.mem_singleton.mp hx]; exact lt1) (fun x hx => by rw [List.mem_singleton.mp hx]; exact lt2) (fun x hx => by rw [List.mem_singleton.mp hx]; exact lt3)) (Nat.ne_of_lt lt1) (Nat.ne_of_lt (Nat.lt_succ_of_lt lt2)) (Nat.ne_of_lt (Nat.lt_succ_of_lt (Nat.lt_succ_of_lt lt3))),
          ⟨hz, hTI, ⟨_, _, _, hTO⟩, ⟨_, g1, rfl, rfl⟩, ⟨_, g2, rfl, rfl⟩, ⟨_, g3, rfl, rfl⟩⟩, fun x hx => ?_, q⟩
        have hle : s1.heap.objs.size ≤ x := by
          have e' : x = s1.heap.objs.size + 5 ∨ x = s1.heap.objs.size + 3 ∨ x = s1.heap.objs.size + 4 ∨ x = s1.heap.objs.size ∨ x = s1.heap.objs.size + 1 ∨ x = s1.heap.objs.size + 2 := by simpa using hx
          rcases e' with z | z | z | z | z | z
          · rw [z]; exact Nat.le_add_right _ _
          · rw [z]; exact Nat.le_add_right _ _
          · rw [z]; exact Nat.le_add_right _ _
          · rw [z]; exact Nat.le_refl _
          · rw [z]; exact Nat.le_add_right _ _
          · rw [z]; exact Nat.le_add_right _ _
        exact I1.fpOk hle (I1.hok.fresh hle)

/-! ### over data -/
theorem enumD_get {xs : List PyData} {i : Nat} {x : PyData} (h : xs[i]? = some x) : (enumD 0 xs)[i]? = some (.tuple [.int (i : Nat), x]) := by
  have hi := (List.getElem?_eq_some_iff.mp h).1
  unfold enumD
  rw [zipD_get (rngD_get hi) h]
  simp
theorem enumD_len {xs : List PyData} : (enumD 0 xs).length = xs.length := by unfold enumD; rw [zipD_len, rngD_len]; simp
def zip3D (xs ys zs : List PyData) : List PyData := List.zipWith (fun x yz => .tuple [x, yz.1, yz.2]) xs (ys.zip zs)
theorem zip3D_get {xs ys zs : List PyData} {i : Nat} {x y z : PyData} (h1 : xs[i]? = some x) (h2 : ys[i]? = some y) (h3 : zs[i]? = some z) : (zip3D xs ys zs)[i]? = some (.tuple [x, y, z]) := by
  have : (ys.zip zs)[i]? = some (y, z) := by rw [List.getElem?_zip_eq_some]; exact ⟨h2, h3⟩
  simp [zip3D, List.getElem?_zipWith, h1, this]
theorem zip3D_len {xs ys zs : List PyData} : (zip3D xs ys zs).length = min xs.length (min ys.length zs.length) := by simp [zip3D]
theorem yl_enumT {K : PySem.W.Frag} {G : Hp} {a : Addr} {ds : List PyData} (h : Dd K G (.ref a) (.tuple ds)) : Yl K G (IteT K a) (enumD 0 ds) := by
  intro i G1 H1 e1 e2
  rw [enumD_len]
  cases h with
  | tup s r =>
    have sG : G1 a = some (.tup _) := e1 _ _ s
    have s1 : SqT K H1 a _ := SqT.of (e2 _ _ sG)
    refine ⟨fun hi => ?_, fun hi => ⟨_, s1, by rw [dpAll_len r, hi]⟩⟩
    obtain ⟨v, h1, h2⟩ := dpAll_get r (show ds[i]? = some ds[i] by simp [hi])
    refine ⟨⟨_, v, s1, h1⟩, fun x H2 y => ?_⟩
    obtain ⟨T, x', rfl, hT, rfl, y⟩ := y
    have e := y _ s1
    rw [h1] at e
    cases e
    exact ⟨L2.upd G1 T (.tup [.int (i : Nat), v]), _, enumD_get (show ds[i]? = some ds[i] by simp [hi]), .new e2 hT, .tup upd_same (.cons (.int _) (.cons (dp_mono (e1.trans (Ex.new (e2.back hT))) _ h2) .nil))⟩
theorem yl_enumL {K : PySem.W.Frag} {G : Hp} {a : Addr} {ds : List PyData} (h : Dd K G (.ref a) (.list ds)) : Yl K G (Ite K a) (enumD 0 ds) := by
  intro i G1 H1 e1 e2
  rw [enumD_len]
  cases h with
  | lst s r =>
    have s1 := ex_l (e1.trans e2) s
    refine ⟨fun hi => ?_, fun hi => ⟨_, s1, by rw [dpAll_len r, hi]; exact Nat.le_refl _⟩⟩
    obtain ⟨v, h1, h2⟩ := dpAll_get r (show ds[i]? = some ds[i] by simp [hi])
    refine ⟨⟨_, v, s1, h1⟩, fun x H2 y => ?_⟩
    obtain ⟨T, x', rfl, hT, rfl, y⟩ := y
    have e := y _ s1
    rw [h1] at e
    cases e
    exact ⟨L2.upd G1 T (.tup [.int (i : Nat), v]), _, enumD_get (show ds[i]? = some ds[i] by simp [hi]), .new e2 hT, .tup upd_same (.cons (.int _) (.cons (dp_mono (e1.trans (Ex.new (e2.back hT))) _ h2) .nil))⟩
theorem yl_zipT {K : PySem.W.Frag} {G : Hp} {a b : Addr} {ds es : List PyData} (hl : ds.length = es.length) (h : Dd K G (.ref a) (.tuple ds)) (h' : Dd K G (.ref b) (.tuple es)) : Yl K G (ItzT K a b) (zipD ds es) := by
  intro i G1 H1 e1 e2
  rw [zipD_len, ← hl, Nat.min_self]
  cases h with
  | tup s r =>
    cases h' with
    | tup s' r' =>
      have s1 : SqT K H1 a _ := SqT.of ((e1.trans e2) _ _ s)
      have s2 : SqT K H1 b _ := SqT.of ((e1.trans e2) _ _ s')
      refine ⟨fun hi => ?_, fun hi => ⟨_, _, s1, s2, .inl (by rw [dpAll_len r, hi]; exact Nat.le_refl _)⟩⟩
      obtain ⟨v, h1, h2⟩ := dpAll_get r (show ds[i]? = some ds[i] by simp [hi])
      have hi' : i < es.length := hl ▸ hi
      obtain ⟨v', h1', h2'⟩ := dpAll_get r' (show es[i]? = some es[i] by simp [hi'])
      refine ⟨⟨_, _, v, v', s1, s2, h1, h1'⟩, fun x H2 y => ?_⟩
      obtain ⟨T, x, x', rfl, hT, rfl, y, y'⟩ := y
      have e := y _ s1
      have e' := y' _ s2
      rw [h1] at e
      rw [h1'] at e'
      cases e
      cases e'
      exact ⟨L2.upd G1 T (.tup [v, v']), _, zipD_get (show ds[i]? = some ds[i] by simp [hi]) (show es[i]? = some es[i] by simp [hi']), .new e2 hT, .tup upd_same (.cons (dp_mono (e1.trans (Ex.new (e2.back hT))) _ h2) (.cons (dp_mono (e1.trans (Ex.new (e2.back hT))) _ h2') .nil))⟩
theorem yl_zip3 {K : PySem.W.Frag} {G : Hp} {a b c : Addr} {ds es fs : List PyData} (hl : ds.length = es.length) (hl2 : ds.length = fs.length) (h : Dd K G (.ref a) (.tuple ds)) (h' : Dd K G (.ref b) (.tuple es)) (h'' : Dd K G (.ref c) (.tuple fs)) : Yl K G (Itz3 K a b c) (zip3D ds es fs) := by
  intro i G1 H1 e1 e2
  rw [zip3D_len, ← hl, ← hl2, Nat.min_self, Nat.min_self]
  cases h with
  | tup s r =>
    cases h' with
    | tup s' r' =>
      cases h'' with
      | tup s'' r'' =>
        have s1 : SqT K H1 a _ := SqT.of ((e1.trans e2) _ _ s)
        have s2 : SqT K H1 b _ := SqT.of ((e1.trans e2) _ _ s')
        have s3 : SqT K H1 c _ := SqT.of ((e1.trans e2) _ _ s'')
        refine ⟨fun hi => ?_, fun hi => ⟨_, _, _, s1, s2, s3, by rw [dpAll_len r, hi], by rw [dpAll_len r', hi, hl], by rw [dpAll_len r'', hi, hl2]⟩⟩
        have hi' : i < es.length := hl ▸ hi
        have hi'' : i < fs.length := hl2 ▸ hi
        obtain ⟨v, h1, h2⟩ := dpAll_get r (show ds[i]? = some ds[i] by simp [hi])
        obtain ⟨v', h1', h2'⟩ := dpAll_get r' (show es[i]? = some es[i] by simp [hi'])
        obtain ⟨v'', h1'', h2''⟩ := dpAll_get r'' (show fs[i]? = some fs[i] by simp [hi''])
        refine ⟨⟨_, _, _, v, v', v'', s1, s2, s3, h1, h1', h1''⟩, fun x H2 y => ?_⟩
        obtain ⟨T, x, x', x'', rfl, hT, rfl, y, y', y''⟩ := y
        have e := y _ s1
        have e' := y' _ s2
        have e'' := y'' _ s3
        rw [h1] at e
        rw [h1'] at e'
        rw [h1''] at e''
        cases e
        cases e'
        cases e''
        have ex : Ex G (L2.upd G1 T (.tup [v, v', v''])) := e1.trans (Ex.new (e2.back hT))
        exact ⟨L2.upd G1 T (.tup [v, v', v'']), _, zip3D_get (show ds[i]? = some ds[i] by simp [hi]) (show es[i]? = some es[i] by simp [hi']) (show fs[i]? = some fs[i] by simp [hi'']), .new e2 hT, .tup upd_same (.cons (dp_mono ex _ h2) (.cons (dp_mono ex _ h2') (.cons (dp_mono ex _ h2'') .nil)))⟩
section
variable {X : Cx} {e e2 e3 : Expr} {s0 s1 : List Sl} {ds es fs : List PyData} {p pos tpos : Pos} {elts : List Expr} {kk : Nat}
theorem ei_enumT (ha : EvA X [e] s0 s1 [.tuple ds]) (hm : X.mg "enumerate" = none) (hg : Gl X "enumerate" := by rfl) (hs : starEach [e] X.env = [(false, eval e X.env)] := by rfl) : EvI X (.Tuple elts kk tpos) (.Call (.Name "enumerate" p) [e] [] pos) s0 s1 (enumD 0 ds) := .mk fun E R q =>
  WI.of (pi_enumT hg hm pa_W hs) (ha E _ fun vs G' H' E' g r => by
    cases r with
    | cons r1 r2 =>
      cases r2
      cases r1 with
      | tup s a => exact ⟨_, _, rfl, SqT.of (E'.s _ _ s), q _ G' H' E' g (yl_enumT (.tup s a))⟩)
theorem ei_enumL (ha : EvA X [e] s0 s1 [.list ds]) (hm : X.mg "enumerate" = none) (hg : Gl X "enumerate" := by rfl) (hs : starEach [e] X.env = [(false, eval e X.env)] := by rfl) : EvI X (.Tuple elts kk tpos) (.Call (.Name "enumerate" p) [e] [] pos) s0 s1 (enumD 0 ds) := .mk fun E R q =>
  WI.of (pi_enum hg hm pa_W hs) (ha E _ fun vs G' H' E' g r => by
    cases r with
    | cons r1 r2 =>
      cases r2
      cases r1 with
      | lst s a => exact ⟨_, _, rfl, ex_l E'.s s, q _ G' H' E' g (yl_enumL (.lst s a))⟩)
theorem ei_zipT (ha : EvA X [e, e2] s0 s1 [.tuple ds, .tuple es]) (hl : ds.length = es.length) (hm : X.mg "zip" = none) (hg : Gl X "zip" := by rfl) (hs : starEach [e, e2] X.env = (false, eval e X.env) :: starEach [e2] X.env := by rfl) (hpl : (backTo pos (starEach [e2] X.env)).any (·.1) = false := by rfl) :
    EvI X (.Tuple elts kk tpos) (.Call (.Name "zip" p) [e, e2] [] pos) s0 s1 (zipD ds es) := .mk fun E R q =>
  WI.of (pi_zipA hg hm pa_W hs hpl) (ha E _ fun vs G' H' E' g r => by
    cases r with
    | cons r1 r2 =>
      cases r2 with
      | cons r2 r3 =>
        cases r3
        cases r1 with
        | tup s a =>
          cases r2 with
          | tup s' a' => exact ⟨_, _, _, _, rfl, .inr ⟨SqT.of (E'.s _ _ s), SqT.of (E'.s _ _ s'), q _ G' H' E' g (yl_zipT hl (.tup s a) (.tup s' a'))⟩⟩)
theorem ei_zip3 (ha : EvA X [e, e2, e3] s0 s1 [.tuple ds, .tuple es, .tuple fs]) (hl : ds.length = es.length) (hl2 : ds.length = fs.length) (hm : X.mg "zip" = none) (hg : Gl X "zip" := by rfl) (hs : starEach [e, e2, e3] X.env = (false, eval e X.env) :: starEach [e2, e3] X.env := by rfl) (hpl : (backTo pos (starEach [e2, e3] X.env)).any (·.1) = false := by rfl) :
    EvI X (.Tuple elts kk tpos) (.Call (.Name "zip" p) [e, e2, e3] [] pos) s0 s1 (zip3D ds es fs) := .mk fun E R q =>
  WI.of (pi_zip3 hg hm pa_W hs hpl) (ha E _ fun vs G' H' E' g r => by
    cases r with
    | cons r1 r2 =>
      cases r2 with
      | cons r2 r3 =>
        cases r3 with
        | cons r3 r4 =>
          cases r4
          cases r1 with
          | tup s a =>
            cases r2 with
            | tup s' a' =>
              cases r3 with
              | tup s'' a'' => exact ⟨_, _, _, _, _, _, rfl, SqT.of (E'.s _ _ s), SqT.of (E'.s _ _ s'), SqT.of (E'.s _ _ s''), q _ G' H' E' g (yl_zip3 hl hl2 (.tup s a) (.tup s' a') (.tup s'' a''))⟩)
end
end Ewl

set_option maxRecDepth 100000
set_option maxHeartbeats 4000000
/-! A tuple so many times; more rules. -/
namespace Ewl
open PySem L2
open PySem.Spec
set_option maxHeartbeats 8000000 in
theorem tuple_mul1 (l : Addr) (items : Array Value) (n : Nat) (dd : Option Addr) (sl : Array (Option Value)) (u : Tok) :
    Meets (Builtin.«tuple.__mul__» ⟨[.ref l, .int 1 u], []⟩) (fun _ R s => s.heap.get? l = some { cls := .type "tuple", dict := dd, data := .seq items n, slots := sl } ∧
      R (.ok (.ret (Value.ref l))) s) :=
  .of_wp fun prog w A R s h => by
    obtain ⟨hp, g, d, tk, os⟩ := s
    obtain ⟨hl, h⟩ := h
    have f1 := AutoSeq1.idx_int
    have c0 : (decide ((1 : Int) < -(2 ^ 63)) || decide ((1 : Int) ≥ 2 ^ 63)) = false := by decide
    have c1 : (items.isEmpty || (1 : Int) == 1) = true := by simp
    wp_walk using AutoSeq1.wpAny_loadPart' hl
    repeat (first
      | (refine wpAny_ite_false (decide_eq_false (by rw [c0]; exact Bool.false_ne_true)) ?_; wp_walk using AutoSeq1.wpAny_loadPart' hl)
      | (refine wpAny_ite_true (decide_eq_true c1) ?_; wp_walk using AutoSeq1.wpAny_loadPart' hl))
    exact ⟨_, rfl, h⟩
def rRepT1 (K : PySem.W.Frag) : R2 := fun x y H Q => ∃ l xs, x = .ref l ∧ y = .int 1 ∧ SqT K H l xs ∧ Q (.ref l) H
section
variable {X : Cx}
theorem op_repT1 : OpR X (binaryOp .Mult) (rRepT1 X.K) := by
  intro pins s σ H x y v u Q I rx ry h
  obtain ⟨l, xs, rfl, rfl, hT, q⟩ := h
  cases rx
  obtain ⟨t, rfl⟩ := ry
  obtain ⟨its, r, ⟨⟨cls, dd, data, sl⟩, ho, hc, n, hd⟩, hs⟩ := I.tuple hT
  simp only at hc hd
  subst hc hd
  refine wpAny_binaryOp_repeat_ref (T := "tuple") (U := "int") (by decide) ⟨_, ho, rfl⟩ (fun s' => typeIs_int s' 1 t) noFill_tuple_mul F.fills_int_mul F.slot_int_rmul repeat_tuple F.slot_int_index.lookup
    (call_meets F.slot_int_rmul (typeIs_int s 1 t) F.entry_int_rmul (F.args_int_rmul_2 _ _) (int_rmul_tuple 1 t l its.toArray n dd sl)
      ⟨ho, rfl, ⟨_, ho, rfl⟩, call_meets F.slot_tuple_mul ⟨_, ho, rfl⟩ F.entry_tuple_mul (F.args_tuple_mul_2 _ _) (tuple_mul1 l its.toArray n dd sl t) ⟨ho, ?_⟩⟩)
  exact ⟨.ref l, H, I, rfl, q⟩
theorem op_repTA : OpR X (binaryOp .Mult) (fun x y H Q => rRepT X.K x y H Q ∨ rRepT1 X.K x y H Q) := by
  intro pins s σ H x y v u Q I rx ry h
  rcases h with h | h
  · exact op_repT pins s σ H x y v u Q I rx ry h
  · exact op_repT1 pins s σ H x y v u Q I rx ry h
theorem rd_repT {ds : List PyData} {k : Int} (h1 : 1 ≤ k) (h2 : k ≤ 1000) (hne : ds ≠ []) (hl : ds.length ≤ 1000) : RD X.K (fun x y H Q => rRepT X.K x y H Q ∨ rRepT1 X.K x y H Q) (.tuple ds) (.int k) (.tuple (List.replicate k.toNat ds).flatten) := .mk fun {G H v w} s a b Q q => by
  cases b
  cases a with
  | tup sl r =>
    have hlen := dpAll_len r
    by_cases hk : k = 1
    · subst hk
      refine .inr ⟨_, _, rfl, rfl, SqT.of (s _ _ sl), q _ G H (.refl s) ?_⟩
      have : (List.replicate (1 : Int).toNat ds).flatten = ds := by simp
      rw [this]
      exact .tup sl r
    · refine .inl ⟨_, k, _, rfl, rfl, SqT.of (s _ _ sl), ?_, by omega, h2, by omega, fun p hp => ?_⟩
      · intro e
        rw [e] at hlen
        exact hne (List.eq_nil_of_length_eq_zero hlen.symm)
      · exact q _ (L2.upd G p (.tup _)) _ (.new s hp) (.tup upd_same (dpAll_mono (Ex.new (s.back hp)) _ (flat_rep r k.toNat)))
end
section
variable {X : Cx} {a b c e : Expr} {es : List Expr} {s0 s1 s2 s3 : List Sl} {d d1 d2 z : PyData} {xs ys : List PyData} {pos p p2 p3 : Pos} {i j : Nat} {x y : Str} {r : Res}
/-! ### x, y = a, [] and its like -/
theorem ew_nil {k : Nat} : PE X (.List [] pos) (tLst tNil) := pe_lst pa_nil
theorem st_parDL {px py pt pl : Pos} {kt k2 pt2} (ha : Ev X a s0 s1 d) (hi : X.N[i]? = some x) (hj : X.N[j]? = some y) (hij : i ≠ j) (hli : i < s1.length) (hlj : j < s1.length)
    (hN : X.N.Nodup) (hx : X.env.scope.names.lookup x = some .local := by rfl) (hy : X.env.scope.names.lookup y = some .local := by rfl) (hc : X.calm = true := by rfl)
    (hst : starEach [a, .List [] pl] X.env = (false, eval a X.env) :: starEach [.List [] pl] X.env := by rfl)
    (hw : swappedStores [.Tuple [.Name x px, .Name y py] kt pt] (.Tuple [a, .List [] pl] k2 pt2) X.env = pure (some [x, y]) := by rfl)
    (hs : swapsWithSole [.Tuple [.Name x px, .Name y py] kt pt] (.Tuple [a, .List [] pl] k2 pt2) pos.line X.env = pure false := by rfl) :
    St1 X (.Assign [.Tuple [.Name x px, .Name y py] kt pt] (.Tuple [a, .List [] pl] k2 pt2) pos) s0 (.nx ((s1.set i (.d d)).set j (.l []))) := .mk fun {G₀ H₀ G H σ} E D k =>
  WS.of (ps_par hc hN hi hj hij hx hy (pa_cons pe_W (pa_cons (pe_lst pa_nil) pa_nil) hst) hw hs) (ha E _ fun v G1 H1 E1 g1 r1 => ⟨Nat.zero_le _, fun p hp => ⟨_, _, rfl,
    k _ G1 _ ((E1.setD hli r1).setL (by rw [List.length_set]; exact hlj) hp .nil) g1⟩⟩)
theorem st_parLL {px py pt pk pl : Pos} {kt k2 pt2} (hi : X.N[i]? = some x) (hj : X.N[j]? = some y) (hij : i ≠ j) (hli : i < s0.length) (hlj : j < s0.length)
    (hN : X.N.Nodup) (hx : X.env.scope.names.lookup x = some .local := by rfl) (hy : X.env.scope.names.lookup y = some .local := by rfl) (hc : X.calm = true := by rfl)
    (hw : swappedStores [.Tuple [.Name x px, .Name y py] kt pt] (.Tuple [.List [] pk, .List [] pl] k2 pt2) X.env = pure (some [x, y]) := by rfl)
    (hs : swapsWithSole [.Tuple [.Name x px, .Name y py] kt pt] (.Tuple [.List [] pk, .List [] pl] k2 pt2) pos.line X.env = pure false := by rfl) :
    St1 X (.Assign [.Tuple [.Name x px, .Name y py] kt pt] (.Tuple [.List [] pk, .List [] pl] k2 pt2) pos) s0 (.nx ((s0.set i (.l [])).set j (.l []))) := .mk fun {G₀ H₀ G H σ} E D k =>
  WS.of (ps_par hc hN hi hj hij hx hy (pa_cons (pe_lst pa_nil) (pa_cons (pe_lst pa_nil) pa_nil)) hw hs) ⟨Nat.zero_le _, fun p hp => ⟨Nat.zero_le _, fun q hq => ⟨_, _, rfl,
    k _ G _ ((E.setL hli hp .nil).setL (by rw [List.length_set]; exact hlj) hq .nil) (Ex.refl G)⟩⟩⟩
/-- x, y, z = a, [], c -/
theorem st_par3 {l : Nat} {z' : Str} {px py pz pt pl : Pos} {kt k2 pt2} (ha : Ev X a s0 s1 d) (hc' : Ev X c s1 s2 d2) (hi : X.N[i]? = some x) (hj : X.N[j]? = some y) (hl : X.N[l]? = some z') (hij : i ≠ j) (hil : i ≠ l) (hjl : j ≠ l) (hli : i < s2.length) (hlj : j < s2.length) (hll : l < s2.length)
    (hN : X.N.Nodup) (hx : X.env.scope.names.lookup x = some .local := by rfl) (hy : X.env.scope.names.lookup y = some .local := by rfl) (hz : X.env.scope.names.lookup z' = some .local := by rfl) (hc : X.calm = true := by rfl)
    (hst : starEach [a, .List [] pl, c] X.env = (false, eval a X.env) :: starEach [.List [] pl, c] X.env := by rfl) (hst2 : starEach [.List [] pl, c] X.env = (false, eval (.List [] pl) X.env) :: starEach [c] X.env := by rfl) (hst3 : starEach [c] X.env = (false, eval c X.env) :: starEach [] X.env := by rfl)
    (hw : swappedStores [.Tuple [.Name x px, .Name y py, .Name z' pz] kt pt] (.Tuple [a, .List [] pl, c] k2 pt2) X.env = pure (some [x, y, z']) := by rfl)
    (hs : swapsWithSole [.Tuple [.Name x px, .Name y py, .Name z' pz] kt pt] (.Tuple [a, .List [] pl, c] k2 pt2) pos.line X.env = pure false := by rfl) :
    St1 X (.Assign [.Tuple [.Name x px, .Name y py, .Name z' pz] kt pt] (.Tuple [a, .List [] pl, c] k2 pt2) pos) s0 (.nx (((s2.set i (.d d)).set j (.l [])).set l (.d d2))) := .mk fun {G₀ H₀ G H σ} E D k =>
  WS.of (ps_par3 hc hN hi hj hl hij hil hjl hx hy hz (pa_cons pe_W (pa_cons (pe_lst pa_nil) (pa_cons pe_W pa_nil hst3) hst2) hst) hw hs) (ha E _ fun v G1 H1 E1 g1 r1 => ⟨Nat.zero_le _, fun p hp => by
    have h0 : H₀ p = none := E1.gw.h.back hp
    have g0 : G₀ p = none := (E1.gw.g.trans E1.s).back hp
    refine hc' (E1.keep (o := .lst []) hp) _ fun w G2 H2 E2 g2 r2 => ?_
    obtain ⟨H3, hp3, e3, E3⟩ := E2.unkeep h0 g0
    refine ⟨_, _, _, rfl, ?_⟩
    subst e3
    exact k _ G2 _ (((E3.setD hli (dp_mono g2 d r1)).setL (by rw [List.length_set]; exact hlj) hp3 .nil).setD (by rw [List.length_set, List.length_set]; exact hll) r2) (g1.trans g2)⟩)

/-! ### try that runs through; a dict handed back -/
theorem st_try {h₀ : ExceptHandler} {hs : List ExceptHandler} {ss : List Stmt} (h : Sv X ss s0 r) (hn : ∀ e s, ¬ X.xe e s := by exact fun _ _ z => z) : St1 X (.Try ss (h₀ :: hs) [] [] pos) s0 r := .mk fun {G₀ H₀ G H σ} E D k =>
  WS.of (ps_try_never hn pss_W pss_nil) (h E { D with nx := tNext D } k)
/-- never reached -/
theorem ev_neg {n : Int} (h : Ev X a s0 s1 (.int n)) : Ev X (.UnaryOp .USub a pos) s0 s1 (.int (-n)) := ev_un un_neg h ru_int
end
end Ewl

set_option maxRecDepth 100000
set_option maxHeartbeats 4000000
/-! A dict handed back. -/
namespace Ewl
open PySem L2
structure EvK (X : Cx) (e : Expr) (sl sl' : List Sl) (kvs : List (Key × PyData)) : Prop where
  run : ∀ {G₀ H₀ G H : Hp} {σ : L2.St}, En X.K G₀ H₀ G H σ sl → ∀ Q : VK, (∀ a ps G' H', En X.K G₀ H₀ G' H' σ sl' → Ex G G' → H' a = none → KD X.K G' ps kvs → Q (.ref a) (L2.upd H' a (.dK ps))) → W X e σ H Q
instance {X : Cx} {e : Expr} {sl sl' : List Sl} {kvs : List (Key × PyData)} : CoeFun (EvK X e sl sl' kvs) (fun _ => ∀ {G₀ H₀ G H : Hp} {σ : L2.St}, En X.K G₀ H₀ G H σ sl → ∀ Q : VK, (∀ a ps G' H', En X.K G₀ H₀ G' H' σ sl' → Ex G G' → H' a = none → KD X.K G' ps kvs → Q (.ref a) (L2.upd H' a (.dK ps))) → W X e σ H Q) := ⟨fun h => h.run⟩
section
variable {X : Cx} {a b c e : Expr} {s0 s1 s2 s3 : List Sl} {d1 d2 d3 : PyData} {pos p1 p2 p3 : Pos} {k1 k2 k3 : Str} {j1 j2 j3 : Nat}
theorem ek_disp3 (ha : Ev X a s0 s1 d1) (hb : Ev X b s1 s2 d2) (hc : Ev X c s2 s3 d3)
    (hm : ∀ v1 v2 v3 : V, mergeK [] [(.inr k1, v1), (.inr k2, v2), (.inr k3, v3)] = [(.inr k1, v1), (.inr k2, v2), (.inr k3, v3)] := by intro _ _ _; rfl) :
    EvK X (.Dict [some (.Constant (.str k1) j1 p1), some (.Constant (.str k2) j2 p2), some (.Constant (.str k3) j3 p3)] [a, b, c] pos) s0 s3 [(.inr k1, d1), (.inr k2, d2), (.inr k3, d3)] := .mk fun {G₀ H₀ G H σ} E Q q => by
  refine W.of (pe_disp (pps_cons pe_str pe_W (pps_cons pe_str pe_W (pps_cons pe_str pe_W pps_nil))) rfl rfl (by simp) (by simp)) ?_
  intro p hp
  have h0 : H₀ p = none := E.gw.h.back hp
  have g0 : G₀ p = none := (E.gw.g.trans E.s).back hp
  refine ha (E.keep (o := .dK []) hp) _ fun v1 G1 H1 E1 g1 r1 => ?_
  refine hb E1 _ fun v2 G2 H2 E2 g2 r2 => ?_
  refine hc E2 _ fun v3 G3 H3 E3 g3 r3 => ?_
  obtain ⟨H4, hp4, e4, E4⟩ := E3.unkeep h0 g0
  subst e4
  refine ⟨upd_same, [(.inr k1, v1), (.inr k2, v2), (.inr k3, v3)], rfl, by simp, ?_⟩
  rw [upd_upd, hm]
  exact q p _ G3 H4 E4 ((g1.trans g2).trans g3) hp4 (.cons ⟨rfl, dp_mono (g2.trans g3) _ r1⟩ (.cons ⟨rfl, dp_mono g3 _ r2⟩ (.cons ⟨rfl, r3⟩ .nil)))
end
section
variable {P : Program} {w : World} {K : PySem.W.Frag} {mg : Str → Option Value} {base : Heap}
/-- a def whose body is the handing back of a new dict -/
theorem okK {x qual : Str} {st : Stmt} {f : Addr} {fd : FuncData} {N ps : List Str} {k : Nat} {g : List PyData → List (Key × PyData) → Prop} {e : Expr} {pos : Pos} (F : Fun K x qual st f fd) (S : FnScope N ps (defScope st)) (len : ∀ ds z, g ds z → ds.length = ps.length) (he : defBody st = [.Return (some e) pos])
    (hb : ∀ (cdv : Value) (A : Around) (outer : List Env) (s : Shared) (H : Hp) (E : XK), Room k (A.deeper (PyProof.Rows.envOfC qual (defScope st) s.heap.objs.size f cdv)) → ∀ ds z, g ds z →
      ∃ sl', EvK (cxOf CX0 P w K mg base N qual (defScope st) f cdv A outer s H E).nox e (ds.map Sl.d ++ List.replicate (N.length - ds.length) Sl.x) sl' z) : FnOk P w K mg base CX0 (k + 1) f fd ps (spK K g) := by
  refine F.ok S (fun vs H Q E h => ?_) (fun cdv A outer s H vs Q E hr h => ?_)
  · obtain ⟨G, ds, z, _, r, hg, _⟩ := h
    rw [dpAll_len r]; exact len ds z hg
  · obtain ⟨G, ds, z, sx, r, hg, q⟩ := h
    obtain ⟨sl', h'⟩ := hb cdv A outer s H E hr ds z hg
    rw [he]
    exact ⟨_, pss_one (ps_ret pe_W), h' (en_start sx r) _ fun a ps G' H' E' g' ha r' => q a ps G' H' E'.gw ha r'⟩
end
end Ewl

set_option maxRecDepth 100000
set_option maxHeartbeats 2000000
/-! Fractions, loads, machines as data. -/
namespace Ewl
open PySem L2
/-! ### shapes -/
def Sh (n : Nat) (d : PyData) : Prop := d.canLay0 = true ∧ d.depth ≤ n
theorem Sh.mono {n m : Nat} {d : PyData} (h : Sh n d) (k : n ≤ m) : Sh m d := ⟨h.1, Nat.le_trans h.2 k⟩
theorem sh_int (i : Int) : Sh 0 (.int i) := ⟨by simp [PyData.canLay0], by simp [PyData.depth]⟩
theorem sh_all {n : Nat} : ∀ {ds : List PyData}, (∀ d ∈ ds, Sh n d) → PyData.canLayAll0 ds = true ∧ PyData.depthAll ds ≤ n
  | [], _ => ⟨by simp [PyData.canLayAll0], by simp [PyData.depthAll]⟩
  | d :: ds, h => by
    have q := sh_all (n := n) fun x hx => h x (List.mem_cons_of_mem _ hx)
    have r := h d List.mem_cons_self
    refine ⟨by simp [PyData.canLayAll0, q.1, r.1], ?_⟩
    have e : PyData.depthAll (d :: ds) = max (PyData.depth d) (PyData.depthAll ds) := by rw [PyData.depthAll]
    rw [e]
    have := q.2
    have := r.2
    omega
theorem sh_tup {n : Nat} {ds : List PyData} (h : ∀ d ∈ ds, Sh n d) : Sh (n + 1) (.tuple ds) := by
  have q := sh_all h
  exact ⟨by simp [PyData.canLay0, q.1], by simp [PyData.depth]; exact q.2⟩
theorem sh_lst {n : Nat} {ds : List PyData} (h : ∀ d ∈ ds, Sh n d) : Sh (n + 1) (.list ds) := by
  have q := sh_all h
  exact ⟨by simp [PyData.canLay0, q.1], by simp [PyData.depth]; exact q.2⟩
theorem Sh.shaped {n : Nat} {d : PyData} (h : Sh n d) (k : n ≤ 64 := by decide) : SeqAt.shaped d = true := by
  unfold SeqAt.shaped
  rw [h.1, Bool.true_and]
  exact decide_eq_true (Nat.le_trans h.2 k)
mutual
theorem eqv_self : ∀ d : PyData, d.canLay0 = true → PyData.eqv d d = true
  | .none, _ => by simp [PyData.eqv]
  | .bool _, _ => by simp [PyData.eqv]
  | .int _, _ => by simp [PyData.eqv]
  | .str x, _ => by simp [PyData.eqv]
  | .list xs, h => by simp [PyData.eqv]; exact eqvAll_self xs (by simpa [PyData.canLay0] using h)
  | .tuple xs, h => by simp [PyData.eqv]; exact eqvAll_self xs (by simpa [PyData.canLay0] using h)
  | .dict _, h => by simp [PyData.canLay0] at h
theorem eqvAll_self : ∀ ds : List PyData, PyData.canLayAll0 ds = true → PyData.eqvAll ds ds = true
  | [], _ => by simp [PyData.eqvAll]
  | d :: ds, h => by
    have q : d.canLay0 = true ∧ PyData.canLayAll0 ds = true := by simpa [PyData.canLayAll0] using h
    simp [PyData.eqvAll, eqv_self d q.1, eqvAll_self ds q.2]
end
section
variable {K : PySem.W.Frag} {n : Nat} {d : PyData}
theorem rd_neSame (h : Sh n d) (k : n ≤ 64 := by decide) : RD K (rNeD K) d d (.bool false) := by
  have e : PyData.bool false = .bool (!PyData.eqv d d) := by rw [eqv_self d h.1]; rfl
  rw [e]
  exact @rd_neD K d d (h.shaped k) (h.shaped k)
theorem rd_eqSame (h : Sh n d) (k : n ≤ 64 := by decide) : RD K (rEqD K) d d (.bool true) := by
  have e : PyData.bool true = .bool (PyData.eqv d d) := by rw [eqv_self d h.1]
  rw [e]
  exact @rd_eqD K d d (h.shaped k) (h.shaped k)
end
/-! ### encodings -/
def iD (n : Nat) : PyData := .int (n : Int)
def fD (q : Rat) : PyData := .tuple [.int q.num, .int (q.den : Int)]
def rowD (r : List Rat) : PyData := .tuple (r.map fD)
def lD (L : List (List Rat)) : PyData := .tuple (L.map rowD)
abbrev Spot := Nat × Nat
def sD (s : Spot) : PyData := .tuple [.int (s.1 : Nat), .int (s.2 : Nat)]
def pD (p : Spot × Spot) : PyData := .tuple [sD p.1, sD p.2]
def zs (cs : List Nat) : List Int := cs.map fun n : Nat => (n : Int)
def cD (cs : List Nat) : PyData := .tuple ((zs cs).map .int)
def tD (ts : List (Spot × Spot)) : PyData := .tuple (ts.map pD)
structure Mach where
  cs : List Nat
  ts : List (Spot × Spot)
def mD (M : Mach) : PyData := .tuple [cD M.cs, tD M.ts]
theorem sh_fD (q : Rat) : Sh 1 (fD q) := sh_tup fun d hd => by
  rcases List.mem_cons.mp hd with z | z
  · subst z; exact sh_int _
  · rw [List.mem_singleton.mp z]; exact sh_int _
theorem sh_rowD (r : List Rat) : Sh 2 (rowD r) := sh_tup fun d hd => by
  obtain ⟨q, _, rfl⟩ := List.mem_map.mp hd
  exact sh_fD q
theorem sh_lD (L : List (List Rat)) : Sh 3 (lD L) := sh_tup fun d hd => by
  obtain ⟨q, _, rfl⟩ := List.mem_map.mp hd
  exact sh_rowD q

/-! ### lowest terms -/
theorem low_fD {t b : Int} (h : 0 < b) : PyData.tuple [.int (t / ((Nat.gcd t.natAbs b.natAbs : Nat) : Int)), .int (b / ((Nat.gcd t.natAbs b.natAbs : Nat) : Int))] = fD (Rat.divInt t b) := by
  unfold fD
  rw [Rat.num_divInt, Rat.den_divInt]
  have e : b.gcd t = Nat.gcd t.natAbs b.natAbs := by rw [Int.gcd, Nat.gcd_comm]
  rw [e, Int.sign_eq_one_of_pos h, Int.one_mul, if_neg (by omega)]
  have eb : ((b.natAbs / Nat.gcd t.natAbs b.natAbs : Nat) : Int) = b / ((Nat.gcd t.natAbs b.natAbs : Nat) : Int) := by
    rw [Int.natCast_ediv, Int.natAbs_of_nonneg (by omega)]
  rw [eb]
theorem num_den (p : Rat) : (p.num : Rat) / ((p.den : Nat) : Rat) = p := by
  have := Rat.num_divInt_den p
  rw [Rat.divInt_eq_div] at this
  exact_mod_cast this
theorem divInt_plus (p q : Rat) : Rat.divInt (p.num * q.den + q.num * p.den) (p.den * q.den) = p + q := by
  rw [Rat.add_def', ← Rat.divInt_ofNat, Int.natCast_mul]
theorem divInt_less (p q : Rat) : Rat.divInt (p.num * q.den - q.num * p.den) (p.den * q.den) = p - q := by
  rw [Rat.sub_def', ← Rat.divInt_ofNat, Int.natCast_mul]
theorem divInt_times (p q : Rat) : Rat.divInt (p.num * q.num) (p.den * q.den) = p * q := by
  rw [Rat.divInt_eq_div]
  have h1 : ((p.den : Nat) : Rat) ≠ 0 := by simp [p.den_nz]
  have h2 : ((q.den : Nat) : Rat) ≠ 0 := by simp [q.den_nz]
  have ep := num_den p
  have eq := num_den q
  push_cast
  grind
theorem divInt_half (p : Rat) : Rat.divInt p.num (2 * p.den) = p / 2 := by
  rw [Rat.divInt_eq_div]
  have h1 : ((p.den : Nat) : Rat) ≠ 0 := by simp [p.den_nz]
  have ep := num_den p
  push_cast
  grind
/-! ### sizes -/
def Sz (k : Nat) (q : Rat) : Prop := q.num.natAbs < 2 ^ k ∧ q.den < 2 ^ k
theorem Sz.mono {k l : Nat} {q : Rat} (h : Sz k q) (hl : k ≤ l) : Sz l q := ⟨Nat.lt_of_lt_of_le h.1 (Nat.pow_le_pow_right (by decide) hl), Nat.lt_of_lt_of_le h.2 (Nat.pow_le_pow_right (by decide) hl)⟩
theorem mk_le {n : Int} {d : Nat} (hd : 0 < d) : (mkRat n d).num.natAbs ≤ n.natAbs ∧ (mkRat n d).den ≤ d := by
  obtain ⟨m, hm, e1, e2⟩ := Rat.mkRat_num_den (d := d) (n := n) (n' := (mkRat n d).num) (d' := (mkRat n d).den) (z' := (mkRat n d).den_nz) (c := (mkRat n d).reduced) (by omega) rfl
  have hm' : 1 ≤ m := Nat.pos_of_ne_zero hm
  refine ⟨?_, ?_⟩
  · conv => rhs; rw [e1]
    rw [Int.natAbs_mul, Int.natAbs_natCast]
    exact Nat.le_mul_of_pos_right _ hm'
  · conv => rhs; rw [e2]
    exact Nat.le_mul_of_pos_right _ hm'
theorem sz_mk {n : Int} {d k : Nat} (hd : 0 < d) (h1 : n.natAbs < 2 ^ k) (h2 : d < 2 ^ k) : Sz k (mkRat n d) :=
  ⟨Nat.lt_of_le_of_lt (mk_le hd).1 h1, Nat.lt_of_le_of_lt (mk_le hd).2 h2⟩
theorem lt_mul2 {a b x y : Nat} (h1 : x < 2 ^ a) (h2 : y < 2 ^ b) : x * y < 2 ^ (a + b) := by
  rw [Nat.pow_add]; exact Nat.mul_lt_mul'' h1 h2
theorem sz_plus {a b : Nat} {p q : Rat} (h1 : Sz a p) (h2 : Sz b q) : Sz (a + b + 1) (p + q) := by
  rw [Rat.add_def']
  refine sz_mk (Nat.mul_pos p.den_pos q.den_pos) ?_ ?_
  · have e1 : (p.num * q.den).natAbs < 2 ^ (a + b) := by rw [Int.natAbs_mul, Int.natAbs_natCast]; exact lt_mul2 h1.1 h2.2
    have e2 : (q.num * p.den).natAbs < 2 ^ (a + b) := by rw [Int.natAbs_mul, Int.natAbs_natCast, Nat.add_comm]; exact lt_mul2 h2.1 h1.2
    rw [Nat.pow_succ]
    omega
  · have := lt_mul2 h1.2 h2.2
    rw [Nat.pow_succ]
    omega
theorem sz_times {a b : Nat} {p q : Rat} (h1 : Sz a p) (h2 : Sz b q) : Sz (a + b) (p * q) := by
  have e : p * q = mkRat (p.num * q.num) (p.den * q.den) := by rw [← divInt_times, ← Rat.divInt_ofNat, Int.natCast_mul]
  rw [e]
  refine sz_mk (Nat.mul_pos p.den_pos q.den_pos) ?_ (lt_mul2 h1.2 h2.2)
  rw [Int.natAbs_mul]
  exact lt_mul2 h1.1 h2.1
theorem sz_half {a : Nat} {p : Rat} (h1 : Sz a p) : Sz (a + 1) (p / 2) := by
  have e : p / 2 = mkRat p.num (2 * p.den) := by rw [← divInt_half, ← Rat.divInt_ofNat, Int.natCast_mul]; rfl
  rw [e]
  have := h1.1
  have := h1.2
  have := p.den_pos
  refine sz_mk (by omega) ?_ ?_
  · rw [Nat.pow_succ]; omega
  · rw [Nat.pow_succ]; omega
theorem sz_zero {k : Nat} (h : 0 < k) : Sz k 0 := ⟨by simpa using Nat.pow_pos (a := 2) (n := k) (by decide), by
  show 1 < 2 ^ k
  exact Nat.one_lt_two_pow (by omega)⟩
theorem sz_one {k : Nat} (h : 0 < k) : Sz k 1 := ⟨by simpa using Nat.one_lt_two_pow (n := k) (by omega), by
  show 1 < 2 ^ k
  exact Nat.one_lt_two_pow (by omega)⟩
theorem sz_neg {k : Nat} {q : Rat} (h : Sz k q) : Sz k (-q) := ⟨by simpa using h.1, by simpa using h.2⟩
theorem sz_sum {k : Nat} : ∀ {qs : List Rat}, (∀ q ∈ qs, Sz k q) → Sz (qs.length * (k + 1) + 1) qs.sum
  | [], _ => sz_zero (by omega)
  | q :: qs, h => by
    have ih := sz_sum (qs := qs) fun x hx => h x (List.mem_cons_of_mem _ hx)
    have := sz_plus (h q List.mem_cons_self) ih
    rw [List.sum_cons]
    refine this.mono ?_
    rw [List.length_cons, Nat.succ_mul]
    omega
/-- of one bottom: a multiple of 1 / d, at most n -/
def Bd (d n : Nat) (q : Rat) : Prop := 0 < d ∧ ∃ m : Int, q = mkRat m d ∧ m.natAbs ≤ n * d
theorem Bd.sz {d n k : Nat} {q : Rat} (h : Bd d n q) (h1 : n * d < 2 ^ k) (h2 : d < 2 ^ k) : Sz k q := by
  obtain ⟨hd, m, rfl, hm⟩ := h
  exact sz_mk hd (Nat.lt_of_le_of_lt hm h1) h2
theorem Bd.mul {d n e : Nat} {q : Rat} (h : Bd d n q) (he : 0 < e) : Bd (d * e) n q := by
  obtain ⟨hd, m, rfl, hm⟩ := h
  refine ⟨Nat.mul_pos hd he, m * e, ?_, ?_⟩
  · rw [Rat.mkRat_eq_iff (by omega) (by have := Nat.mul_pos hd he; omega)]
    rw [Int.natCast_mul, Int.mul_assoc, Int.mul_comm (d : Int)]
  · rw [Int.natAbs_mul, Int.natAbs_natCast, ← Nat.mul_assoc]
    exact Nat.mul_le_mul_right _ hm
theorem Bd.add {d n n' : Nat} {p q : Rat} (h : Bd d n p) (h' : Bd d n' q) : Bd d (n + n') (p + q) := by
  obtain ⟨hd, m, rfl, hm⟩ := h
  obtain ⟨_, m', rfl, hm'⟩ := h'
  refine ⟨hd, m + m', ?_, ?_⟩
  · rw [Rat.mkRat_add_mkRat _ _ (by omega) (by omega), Rat.mkRat_eq_iff (by have := Nat.mul_pos hd hd; omega) (by omega)]
    rw [Int.natCast_mul]
    grind
  · rw [Nat.add_mul]; omega
theorem Bd.times {d n d' n' : Nat} {p q : Rat} (h : Bd d n p) (h' : Bd d' n' q) : Bd (d * d') (n * n') (p * q) := by
  obtain ⟨hd, m, rfl, hm⟩ := h
  obtain ⟨hd', m', rfl, hm'⟩ := h'
  refine ⟨Nat.mul_pos hd hd', m * m', by rw [Rat.mkRat_mul_mkRat], ?_⟩
  rw [Int.natAbs_mul]
  calc m.natAbs * m'.natAbs ≤ (n * d) * (n' * d') := Nat.mul_le_mul hm hm'
    _ = n * n' * (d * d') := by grind
theorem Bd.mean {d n : Nat} {p q : Rat} (h : Bd d n p) (h' : Bd d n q) : Bd (d * 2) n ((p + q) / 2) := by
  obtain ⟨hd, m, rfl, hm⟩ := h
  obtain ⟨_, m', rfl, hm'⟩ := h'
  refine ⟨by omega, m + m', ?_, ?_⟩
  · have h1 : ((d : Nat) : Rat) ≠ 0 := by simp; omega
    rw [Rat.mkRat_eq_div, Rat.mkRat_eq_div, Rat.mkRat_eq_div]
    push_cast
    grind
  · have : n * (d * 2) = n * d + n * d := by grind
    omega
theorem Bd.zero {d n : Nat} (hd : 0 < d) : Bd d n 0 := ⟨hd, 0, by simp, by simp⟩
theorem Bd.mono {d n n' : Nat} {q : Rat} (h : Bd d n q) (hn : n ≤ n') : Bd d n' q := by
  obtain ⟨hd, m, e, hm⟩ := h
  exact ⟨hd, m, e, Nat.le_trans hm (Nat.mul_le_mul_right _ hn)⟩
end Ewl

set_option maxRecDepth 100000
set_option maxHeartbeats 2000000
namespace Ewl
open PySem L2
def top (i : Nat) : Stmt := PySem.Challenge.pw_evenwheels_k02_whole_beats_of_loads.main.body.getD i (.Pass ⟨0, 0, 0, 0⟩)
structure Tx (mg : Str → Option Value) : Prop where
  ty : mg "type" = none
  int : mg "int" = none
  tuple : mg "tuple" = none
  len : mg "len" = none
  gcd : mg "gcd" = some (.builtin "math.gcd")
  sum : mg "sum" = none
  range : mg "range" = none
  enum : mg "enumerate" = none
  zip : mg "zip" = none
  list : mg "list" = none
  sorted : mg "sorted" = none
  min : mg "min" = none
  max : mg "max" = none
  abs : mg "abs" = none
  mw : ∃ t, mg "MOST_WHEELS" = some (.int 16 t)
  mc : ∃ t, mg "MOST_CELLS" = some (.int 30 t)
  mt : ∃ t, mg "MOST_TOUCHES" = some (.int 8 t)
  mb : ∃ t, mg "MOST_BEATS" = some (.int 300 t)
theorem _root_.L2.Room.u64 {k : Nat} {A : Around} (r : Room k A) : A.units + 64 < cLine := by have := r.un; omega
theorem _root_.L2.Room.u1 {k : Nat} {A : Around} (r : Room k A) : A.units + 1 < cLine := by have := r.un; omega
theorem Sv.to {X : Cx} {ss : List Stmt} {s0 s1 s2 : List Sl} (h : Sv X ss s0 (.nx s1)) (e : s1 = s2) : Sv X ss s0 (.nx s2) := e ▸ h
theorem take_sum {qs : List Rat} {i : Nat} {q : Rat} (h : qs[i]? = some q) : (qs.take (i + 1)).sum = (qs.take i).sum + q := by
  rw [take_more h, List.sum_append]; simp [Rat.add_zero]
theorem map_get {α : Type} {f : α → PyData} {xs : List α} {i : Nat} {d : PyData} (h : (xs.map f)[i]? = some d) : ∃ x, xs[i]? = some x ∧ d = f x := by
  rw [List.getElem?_map] at h
  cases e : xs[i]? with
  | none => rw [e] at h; cases h
  | some x => rw [e] at h; exact ⟨x, rfl, (Option.some.inj h).symm⟩
section
variable {P : Program} {w : World} {K : PySem.W.Frag} {mg : Str → Option Value} {base : Heap}
def gIsWhole (ds : List PyData) (z : PyData) : Prop := ∃ d, ds = [d] ∧ z = .bool (decide (tyD d = "int"))
theorem sc_isWhole : FnScope ["thing"] ["thing"] (defScope (top 8)) := ⟨rfl, rfl, rfl, by decide +kernel, rfl, by decide +kernel, by decide +kernel⟩
theorem ok_isWhole {f : Addr} {fd : FuncData} (F : Fun K "is_whole" "is_whole" (top 8) f fd) (T : Tx mg) : FnOk P w K mg base CX0 1 f fd ["thing"] (spD K gIsWhole) := by
  refine okD F sc_isWhole (fun ds z ⟨d, e, _⟩ => by rw [e]; rfl) fun cdv A outer s H E hr ds z ⟨d, e1, e2⟩ => ?_
  subst e1 e2
  exact ⟨_, sv_ret (st_ret (ev_tyEq (ev_var (i := 0) rfl rfl) T.ty T.int))⟩
/-- type(thing) == tuple and len(thing) == many -/
def gTupleOf (ds : List PyData) (z : PyData) : Prop := ∃ (es : List PyData) (n : Int), ds = [.tuple es, .int n] ∧ z = .bool (decide ((es.length : Int) = n))
theorem sc_tupleOf : FnScope ["thing", "many"] ["thing", "many"] (defScope (top 9)) := ⟨rfl, rfl, rfl, by decide +kernel, rfl, by decide +kernel, by decide +kernel⟩
theorem ok_tupleOf {f : Addr} {fd : FuncData} (F : Fun K "is_tuple_of" "is_tuple_of" (top 9) f fd) (T : Tx mg) : FnOk P w K mg base CX0 1 f fd ["thing", "many"] (spD K gTupleOf) := by
  refine okD F sc_tupleOf (fun ds z ⟨es, n, e, _⟩ => by rw [e]; rfl) fun cdv A outer s H E hr ds z ⟨es, n, e1, e2⟩ => ?_
  subst e1 e2
  refine ⟨_, sv_ret (st_ret (Ev.to (ev_and (ev_tyEq (T := "tuple") (ev_var (i := 0) rfl rfl) T.ty T.tuple) fun _ => ev_one (ev_cmp (op_eqD hr.u64) (ev_callB call_len_seq (ea_cons (ev_var (i := 0) rfl rfl) ea_nil) rc_lenT T.len) (ev_var (i := 1) rfl rfl) (rd_eqD (sh_int _).shaped (sh_int _).shaped))) ?_))⟩
  simp [PyData.eqv, tyD]
  rfl
def gFrac (ds : List PyData) (z : PyData) : Prop := ∃ q : Rat, ds = [fD q] ∧ z = .bool true
theorem sc_frac : FnScope ["thing", "top", "bottom"] ["thing"] (defScope (top 10)) := ⟨rfl, rfl, rfl, by decide +kernel, rfl, by decide +kernel, by decide +kernel⟩
theorem ok_frac {f : Addr} {fd : FuncData} (F : Fun K "is_fraction" "is_fraction" (top 10) f fd) (T : Tx mg) (f1 : Fn P w K mg base "is_whole" 1 (spD K gIsWhole)) (f2 : Fn P w K mg base "is_tuple_of" 1 (spD K gTupleOf)) : FnOk P w K mg base CX0 2 f fd ["thing"] (spD K gFrac) := by
  refine okD F sc_frac (fun ds z ⟨q, e, _⟩ => by rw [e]; rfl) fun cdv A outer s H E hr ds z ⟨q, e1, e2⟩ => ?_
  subst e1 e2
  refine ⟨_, sv_nx (st_ifF (EvT.to (et_not (et_val (ev_call f2 hr (ea_cons (ev_var (i := 0) rfl rfl) (ea_cons ev_int ea_nil)) ⟨_, _, rfl, rfl⟩))) rfl) sv_nil)
    (sv_nx (st_asgT (ev_var (i := 0) rfl rfl) (tg_tup (tgs_cons (tg_name (i := 1) rfl (by simp) sc_frac.nd) (tgs_cons (tg_name (i := 2) rfl (by simp) sc_frac.nd) tgs_nil))))
    (sv_ret (st_ret (Ev.to (ev_and (ev_call f1 hr (ea_cons (ev_var (i := 1) rfl rfl) ea_nil) ⟨_, rfl, rfl⟩) fun _ => ev_and (ev_call f1 hr (ea_cons (ev_var (i := 2) rfl rfl) ea_nil) ⟨_, rfl, rfl⟩) fun _ =>
      ev_and (ev_cmp op_gt (ev_var (i := 2) rfl rfl) ev_int rd_bool) fun _ => ev_one (ev_cmp (op_eqD hr.u64) (ev_callF cr_gcd (ea_cons (ev_var (i := 1) rfl rfl) (ea_cons (ev_var (i := 2) rfl rfl) ea_nil)) rc_gcd T.gcd) ev_int (rd_eqD (sh_int _).shaped (sh_int _).shaped))) ?_))))⟩
  have h1 := q.den_pos
  have h2 := q.reduced
  simp [PyData.eqv, tyD, h1, h2]
def gNeedFrac (ds : List PyData) (z : PyData) : Prop := ∃ q : Rat, ds = [fD q] ∧ z = .none
theorem sc_needFrac : FnScope ["thing"] ["thing"] (defScope (top 11)) := ⟨rfl, rfl, rfl, by decide +kernel, rfl, by decide +kernel, by decide +kernel⟩
theorem ok_needFrac {f : Addr} {fd : FuncData} (F : Fun K "need_fraction" "need_fraction" (top 11) f fd) (T : Tx mg) (f1 : Fn P w K mg base "is_fraction" 2 (spD K gFrac)) : FnOk P w K mg base CX0 3 f fd ["thing"] (spD K gNeedFrac) := by
  refine okN F sc_needFrac (fun ds z ⟨q, e, _⟩ => by rw [e]; rfl) (fun ds z ⟨q, _, e⟩ => e) fun cdv A outer s H E hr ds z ⟨q, e1, e2⟩ => ?_
  subst e1 e2
  exact ⟨_, sv_one (st_ifF (EvT.to (et_not (et_val (ev_call f1 hr (ea_cons (ev_var (i := 0) rfl rfl) ea_nil) ⟨_, rfl, rfl⟩))) rfl) sv_nil)⟩
def gLow (ds : List PyData) (z : PyData) : Prop := ∃ t b : Int, 0 < b ∧ b.natAbs < 2 ^ 8000 ∧ ds = [.int t, .int b] ∧ z = fD (Rat.divInt t b)
theorem sc_low : FnScope ["top", "bottom", "common"] ["top", "bottom"] (defScope (top 12)) := ⟨rfl, rfl, rfl, by decide +kernel, rfl, by decide +kernel, by decide +kernel⟩
theorem gcd_le {t b : Int} (h : 0 < b) : 0 < ((Nat.gcd t.natAbs b.natAbs : Nat) : Int) ∧ Nat.gcd t.natAbs b.natAbs ≤ b.natAbs := by
  have h1 : 0 < b.natAbs := by omega
  have h2 := Nat.gcd_pos_of_pos_right t.natAbs h1
  exact ⟨by omega, Nat.gcd_le_right _ h1⟩
theorem ok_low {f : Addr} {fd : FuncData} (F : Fun K "lowest" "lowest" (top 12) f fd) (T : Tx mg) : FnOk P w K mg base CX0 1 f fd ["top", "bottom"] (spD K gLow) := by
  refine okD F sc_low (fun ds z ⟨t, b, _, _, e, _⟩ => by rw [e]; rfl) fun cdv A outer s H E hr ds z ⟨t, b, h, hz, e1, e2⟩ => ?_
  subst e1 e2
  have hd : CDivW t ((Nat.gcd t.natAbs b.natAbs : Nat) : Int) := wide_div (gcd_le h).1 (b := 8000) (by rw [Int.natAbs_natCast]; exact Nat.lt_of_le_of_lt (gcd_le h).2 hz) (by decide) (by decide)
  have hd' : CDivW b ((Nat.gcd t.natAbs b.natAbs : Nat) : Int) := hd
  refine ⟨_, sv_nx (st_asg (ev_callF cr_gcd (ea_cons (ev_var (i := 0) rfl rfl) (ea_cons (ev_var (i := 1) rfl rfl) ea_nil)) rc_gcd T.gcd) (i := 2) rfl (by simp) sc_low.nd)
    (sv_nx (st_ifF (EvT.to (et_cmp op_lt (ev_var (i := 1) rfl rfl) ev_int rd_bool) (decide_eq_false (by omega))) sv_nil)
      (sv_ret (st_ret (Ev.to (ev_tup (ea_cons (ev_bin op_fdivW (ev_var (i := 0) rfl rfl) (ev_var (i := 2) rfl rfl) (rd_intC hd)) (ea_cons (ev_bin op_fdivW (ev_var (i := 1) rfl rfl) (ev_var (i := 2) rfl rfl) (rd_intC hd')) ea_nil))) (low_fD h)))))⟩
/-! plus, less, times, half -/
theorem den_sz {k : Nat} {q : Rat} (h : Sz k q) : ((q.den : Nat) : Int).natAbs < 2 ^ k := by rw [Int.natAbs_natCast]; exact h.2
theorem mul_pos' (p q : Rat) : (0 : Int) < (p.den : Nat) * (q.den : Nat) := Int.mul_pos (by have := p.den_pos; omega) (by have := q.den_pos; omega)
theorem low_sz {p q : Rat} (h1 : Sz 3000 p) (h2 : Sz 3000 q) : (((p.den : Nat) : Int) * ((q.den : Nat) : Int)).natAbs < 2 ^ 8000 :=
  Nat.lt_of_lt_of_le (wide_lt (den_sz h1) (den_sz h2)) (Nat.pow_le_pow_right (by decide) (by decide))
def gPlus (ds : List PyData) (z : PyData) : Prop := ∃ p q : Rat, Sz 3000 p ∧ Sz 3000 q ∧ ds = [fD p, fD q] ∧ z = fD (p + q)
theorem sc_plus : FnScope ["one", "other"] ["one", "other"] (defScope (top 14)) := ⟨rfl, rfl, rfl, by decide +kernel, rfl, by decide +kernel, by decide +kernel⟩
theorem ok_plus {f : Addr} {fd : FuncData} (F : Fun K "plus" "plus" (top 14) f fd) (T : Tx mg) (f1 : Fn P w K mg base "lowest" 1 (spD K gLow)) : FnOk P w K mg base CX0 2 f fd ["one", "other"] (spD K gPlus) := by
  refine okD F sc_plus (fun ds z ⟨p, q, _, _, e, _⟩ => by rw [e]; rfl) fun cdv A outer s H E hr ds z ⟨p, q, h1, h2, e1, e2⟩ => ?_
  subst e1 e2
  exact ⟨_, sv_ret (st_ret (ev_call f1 hr (ea_cons (ev_bin op_add (ev_bin op_mulW (ev_ix ix_tup (ev_var (i := 0) rfl rfl) ev_int (rd_ixT rfl)) (ev_ix ix_tup (ev_var (i := 1) rfl rfl) ev_int (rd_ixT rfl)) (rd_intC (wide_mul h1.1 (den_sz h2) (by decide) (by decide) (by decide))))
      (ev_bin op_mulW (ev_ix ix_tup (ev_var (i := 1) rfl rfl) ev_int (rd_ixT rfl)) (ev_ix ix_tup (ev_var (i := 0) rfl rfl) ev_int (rd_ixT rfl)) (rd_intC (wide_mul h2.1 (den_sz h1) (by decide) (by decide) (by decide)))) rd_int)
    (ea_cons (ev_bin op_mulW (ev_ix ix_tup (ev_var (i := 0) rfl rfl) ev_int (rd_ixT rfl)) (ev_ix ix_tup (ev_var (i := 1) rfl rfl) ev_int (rd_ixT rfl)) (rd_intC (wide_mul (den_sz h1) (den_sz h2) (by decide) (by decide) (by decide)))) ea_nil))
    ⟨_, _, mul_pos' p q, low_sz h1 h2, rfl, congrArg fD (divInt_plus p q).symm⟩))⟩
def gLess (ds : List PyData) (z : PyData) : Prop := ∃ p q : Rat, Sz 3000 p ∧ Sz 3000 q ∧ ds = [fD p, fD q] ∧ z = fD (p - q)
theorem sc_less : FnScope ["one", "other"] ["one", "other"] (defScope (top 15)) := ⟨rfl, rfl, rfl, by decide +kernel, rfl, by decide +kernel, by decide +kernel⟩
theorem ok_less {f : Addr} {fd : FuncData} (F : Fun K "less" "less" (top 15) f fd) (T : Tx mg) (f1 : Fn P w K mg base "lowest" 1 (spD K gLow)) : FnOk P w K mg base CX0 2 f fd ["one", "other"] (spD K gLess) := by
  refine okD F sc_less (fun ds z ⟨p, q, _, _, e, _⟩ => by rw [e]; rfl) fun cdv A outer s H E hr ds z ⟨p, q, h1, h2, e1, e2⟩ => ?_
  subst e1 e2
  exact ⟨_, sv_ret (st_ret (ev_call f1 hr (ea_cons (ev_bin op_sub (ev_bin op_mulW (ev_ix ix_tup (ev_var (i := 0) rfl rfl) ev_int (rd_ixT rfl)) (ev_ix ix_tup (ev_var (i := 1) rfl rfl) ev_int (rd_ixT rfl)) (rd_intC (wide_mul h1.1 (den_sz h2) (by decide) (by decide) (by decide))))
      (ev_bin op_mulW (ev_ix ix_tup (ev_var (i := 1) rfl rfl) ev_int (rd_ixT rfl)) (ev_ix ix_tup (ev_var (i := 0) rfl rfl) ev_int (rd_ixT rfl)) (rd_intC (wide_mul h2.1 (den_sz h1) (by decide) (by decide) (by decide)))) rd_int)
    (ea_cons (ev_bin op_mulW (ev_ix ix_tup (ev_var (i := 0) rfl rfl) ev_int (rd_ixT rfl)) (ev_ix ix_tup (ev_var (i := 1) rfl rfl) ev_int (rd_ixT rfl)) (rd_intC (wide_mul (den_sz h1) (den_sz h2) (by decide) (by decide) (by decide)))) ea_nil))
    ⟨_, _, mul_pos' p q, low_sz h1 h2, rfl, congrArg fD (divInt_less p q).symm⟩))⟩
def gTimes (ds : List PyData) (z : PyData) : Prop := ∃ p q : Rat, Sz 3000 p ∧ Sz 3000 q ∧ ds = [fD p, fD q] ∧ z = fD (p * q)
theorem sc_times : FnScope ["one", "other"] ["one", "other"] (defScope (top 16)) := ⟨rfl, rfl, rfl, by decide +kernel, rfl, by decide +kernel, by decide +kernel⟩
theorem ok_times {f : Addr} {fd : FuncData} (F : Fun K "times" "times" (top 16) f fd) (T : Tx mg) (f1 : Fn P w K mg base "lowest" 1 (spD K gLow)) : FnOk P w K mg base CX0 2 f fd ["one", "other"] (spD K gTimes) := by
  refine okD F sc_times (fun ds z ⟨p, q, _, _, e, _⟩ => by rw [e]; rfl) fun cdv A outer s H E hr ds z ⟨p, q, h1, h2, e1, e2⟩ => ?_
  subst e1 e2
  exact ⟨_, sv_ret (st_ret (ev_call f1 hr (ea_cons (ev_bin op_mulW (ev_ix ix_tup (ev_var (i := 0) rfl rfl) ev_int (rd_ixT rfl)) (ev_ix ix_tup (ev_var (i := 1) rfl rfl) ev_int (rd_ixT rfl)) (rd_intC (wide_mul h1.1 h2.1 (by decide) (by decide) (by decide))))
    (ea_cons (ev_bin op_mulW (ev_ix ix_tup (ev_var (i := 0) rfl rfl) ev_int (rd_ixT rfl)) (ev_ix ix_tup (ev_var (i := 1) rfl rfl) ev_int (rd_ixT rfl)) (rd_intC (wide_mul (den_sz h1) (den_sz h2) (by decide) (by decide) (by decide)))) ea_nil))
    ⟨_, _, mul_pos' p q, low_sz h1 h2, rfl, congrArg fD (divInt_times p q).symm⟩))⟩
def gHalf (ds : List PyData) (z : PyData) : Prop := ∃ p : Rat, Sz 3500 p ∧ ds = [fD p] ∧ z = fD (p / 2)
theorem sc_half : FnScope ["one"] ["one"] (defScope (top 17)) := ⟨rfl, rfl, rfl, by decide +kernel, rfl, by decide +kernel, by decide +kernel⟩
theorem ok_half {f : Addr} {fd : FuncData} (F : Fun K "half" "half" (top 17) f fd) (T : Tx mg) (f1 : Fn P w K mg base "lowest" 1 (spD K gLow)) : FnOk P w K mg base CX0 2 f fd ["one"] (spD K gHalf) := by
  refine okD F sc_half (fun ds z ⟨p, _, e, _⟩ => by rw [e]; rfl) fun cdv A outer s H E hr ds z ⟨p, h1, e1, e2⟩ => ?_
  subst e1 e2
  have hd := den_sz h1
  have h2 : ((2 : Int) * (p.den : Nat)).natAbs < 2 ^ 8000 := Nat.lt_of_lt_of_le (wide_lt (i := 2) (a := 2) (by decide) hd) (Nat.pow_le_pow_right (by decide) (by decide))
  have h0 : (0 : Int) < 2 * (p.den : Nat) := by have := p.den_pos; omega
  exact ⟨_, sv_ret (st_ret (ev_call f1 hr (ea_cons (ev_ix ix_tup (ev_var (i := 0) rfl rfl) ev_int (rd_ixT rfl)) (ea_cons (ev_bin op_mulW ev_int (ev_ix ix_tup (ev_var (i := 0) rfl rfl) ev_int (rd_ixT rfl)) (rd_intC (wide_mul (a := 2) (by decide) hd (by decide) (by decide) (by decide)))) ea_nil))
    ⟨_, _, h0, h2, rfl, congrArg fD (divInt_half p).symm⟩))⟩
/-! total -/
def gTotal (ds : List PyData) (z : PyData) : Prop := ∃ qs : List Rat, qs.length ≤ 30 ∧ (∀ q ∈ qs, Sz 90 q) ∧ ds = [.list (qs.map fD)] ∧ z = fD qs.sum
theorem sc_total : FnScope ["things", "so_far", "thing"] ["things"] (defScope (top 18)) := ⟨rfl, rfl, rfl, by decide +kernel, rfl, by decide +kernel, by decide +kernel⟩
theorem ok_total {f : Addr} {fd : FuncData} (F : Fun K "total" "total" (top 18) f fd) (T : Tx mg) (f1 : Fn P w K mg base "plus" 2 (spD K gPlus)) : FnOk P w K mg base CX0 3 f fd ["things"] (spD K gTotal) := by
  refine okD F sc_total (fun ds z ⟨p, _, _, e, _⟩ => by rw [e]; rfl) fun cdv A outer s H E hr ds z ⟨qs, hl, hz, e1, e2⟩ => ?_
  subst e1 e2
  have part : ∀ i, Sz 3000 (qs.take i).sum := fun i => (sz_sum (k := 90) fun q hq => hz q (List.mem_of_mem_take hq)).mono (by
    rw [List.length_take]
    have : min i qs.length ≤ 30 := by omega
    have := Nat.mul_le_mul_right 91 this
    omega)
  refine ⟨_, sv_nx (st_asg (ev_tup (ea_cons ev_int (ea_cons ev_int ea_nil))) (i := 1) rfl (by simp) sc_total.nd) (sv_nx (st_for (S := fun i => [.d (.list (qs.map fD)), .d (fD (qs.take i).sum), .x]) (items := qs.map fD) (ei_list (ev_var (i := 0) rfl rfl)) ?_)
    (sv_ret (st_ret (Ev.to (ev_var (i := 1) rfl rfl) ?_))))⟩
  · intro i d hd
    obtain ⟨q, hq, rfl⟩ := map_get hd
    refine ⟨_, _, tg_name (i := 2) rfl (by simp) sc_total.nd, Sv.to (sv_nx (st_asg (ev_call f1 hr (ea_cons (ev_var (i := 1) rfl rfl) (ea_cons (ev_var (i := 2) rfl rfl) ea_nil)) ⟨_, _, part i, (hz q (List.mem_of_getElem? hq)).mono (by decide), rfl, rfl⟩) (i := 1) rfl (by simp) sc_total.nd) (sv_drop 2 sv_nil)) ?_⟩
    simp [take_sum hq]
  · simp
end
end Ewl

set_option maxRecDepth 100000
set_option maxHeartbeats 2000000
set_option exponentiation.threshold 10000
namespace Ewl
open PySem L2
/-- a def with any defaults -/
structure FunV (K : PySem.W.Frag) (x qual : Str) (st : Stmt) (f : Addr) (fd : FuncData) : Prop where
  ex : ∃ (oc : Value) (od : Option Addr) (dV kV doc pm : Value) (an : Option Addr) (cdv ct : Value) (osl : Array (Option Value)),
    fd = PySem.W.fnOf x qual (defArgs st) (defBody st) (defScope st) dV kV doc pm an cdv ct ∧ K.lookup f = some ⟨oc, od, .func fd, osl⟩ ∧ PySem.W.codeIn K cdv qual = true
section
variable {P : Program} {w : World} {K : PySem.W.Frag} {mg : Str → Option Value} {base : Heap}
theorem okDV {x qual : Str} {st : Stmt} {f : Addr} {fd : FuncData} {N ps : List Str} {k : Nat} {g : List PyData → PyData → Prop} (F : FunV K x qual st f fd) (S : FnScope N ps (defScope st)) (len : ∀ ds z, g ds z → ds.length = ps.length)
    (hb : ∀ (cdv : Value) (A : Around) (outer : List Env) (s : Shared) (H : Hp) (E : XK), Room k (A.deeper (PyProof.Rows.envOfC qual (defScope st) s.heap.objs.size f cdv)) → ∀ ds z, g ds z →
      ∃ sl', Sv (cxOf CX0 P w K mg base N qual (defScope st) f cdv A outer s H E).nox (defBody st) (ds.map Sl.d ++ List.replicate (N.length - ds.length) Sl.x) (.ret sl' z)) : FnOk P w K mg base CX0 (k + 1) f fd ps (spD K g) := by
  obtain ⟨oc, od, dV, kV, doc, pm, an, cdv, ct, osl, rfl, lk, hcd⟩ := F.ex
  refine fn_of lk hcd S (fun vs H Q E h => ?_) fun A outer s H vs Q E hr hsp => ?_
  · obtain ⟨G, ds, z, _, r, hg, _⟩ := h
    rw [dpAll_len r]; exact len ds z hg
  · obtain ⟨G, ds, z, sx, r, hg, q⟩ := hsp
    obtain ⟨sl', h'⟩ := hb cdv A outer s H E hr ds z hg
    exact ⟨_, pss_W.nox, h' (en_start sx r) _ fun v σ G' H' E' g' r' => q v G' H' E'.gw r'⟩
def gFraction (ds : List PyData) (z : PyData) : Prop := ∃ t b : Int, 0 < b ∧ b.natAbs < 2 ^ 8000 ∧ ds = [.int t, .int b] ∧ z = fD (Rat.divInt t b)
theorem sc_fraction : FnScope ["top", "bottom"] ["top", "bottom"] (defScope (top 13)) := ⟨rfl, rfl, rfl, by decide +kernel, rfl, by decide +kernel, by decide +kernel⟩
theorem ok_fraction {f : Addr} {fd : FuncData} (F : FunV K "fraction" "fraction" (top 13) f fd) (T : Tx mg) (f1 : Fn P w K mg base "is_whole" 1 (spD K gIsWhole)) (f2 : Fn P w K mg base "lowest" 1 (spD K gLow)) : FnOk P w K mg base CX0 2 f fd ["top", "bottom"] (spD K gFraction) := by
  refine okDV F sc_fraction (fun ds z ⟨t, b, _, _, e, _⟩ => by rw [e]; rfl) fun cdv A outer s H E hr ds z ⟨t, b, h0, h1, e1, e2⟩ => ?_
  subst e1 e2
  refine ⟨_, sv_nx (st_ifF (EvT.to (EvP.et (ep_or (et_not (et_val (ev_call f1 hr (ea_cons (ev_var (i := 0) rfl rfl) ea_nil) ⟨_, rfl, rfl⟩))) fun _ => ep_or1 (et_not (et_val (ev_call f1 hr (ea_cons (ev_var (i := 1) rfl rfl) ea_nil) ⟨_, rfl, rfl⟩))))) rfl) sv_nil)
    (sv_nx (st_ifF (EvT.to (et_cmp (op_eqD hr.u64) (ev_var (i := 1) rfl rfl) ev_int (rd_eqD (sh_int _).shaped (sh_int _).shaped)) ?_) sv_nil)
      (sv_ret (st_ret (ev_call f2 hr (ea_cons (ev_var (i := 0) rfl rfl) (ea_cons (ev_var (i := 1) rfl rfl) ea_nil)) ⟨t, b, h0, h1, rfl, rfl⟩))))⟩
  simp [PyData.eqv]
  omega
end
end Ewl

set_option maxRecDepth 100000
set_option maxHeartbeats 2000000
/-! Machines. -/
namespace Ewl
open PySem L2
def SpOk (cs : List Nat) (s : Spot) : Prop := ∃ c, cs[s.1]? = some c ∧ s.2 < c
def sLt (a b : Spot) : Prop := a.1 < b.1 ∨ (a.1 = b.1 ∧ a.2 < b.2)
def pLt (p q : Spot × Spot) : Prop := sLt p.1 q.1 ∨ (p.1 = q.1 ∧ sLt p.2 q.2)
instance (a b : Spot) : Decidable (sLt a b) := by unfold sLt; infer_instance
instance (a b : Spot × Spot) : Decidable (pLt a b) := by unfold pLt; infer_instance
def tSpots (ts : List (Spot × Spot)) : List Spot := ts.flatMap fun p => [p.1, p.2]
structure MOk (M : Mach) : Prop where
  len1 : 1 ≤ M.cs.length
  len2 : M.cs.length ≤ 16
  pos : ∀ c ∈ M.cs, 1 ≤ c
  sum : M.cs.sum ≤ 30
  tl : M.ts.length ≤ 8
  sp : ∀ p ∈ M.ts, SpOk M.cs p.1 ∧ SpOk M.cs p.2 ∧ sLt p.1 p.2
  ri : ∀ (i : Nat) p q, M.ts[i]? = some p → M.ts[i + 1]? = some q → pLt p q
  nd : (tSpots M.ts).Nodup
theorem zs_len {cs : List Nat} : (zs cs).length = cs.length := by simp [zs]
theorem zs_sum : ∀ {cs : List Nat}, (zs cs).sum = ((cs.sum : Nat) : Int)
  | [] => rfl
  | c :: cs => by
    have := zs_sum (cs := cs)
    unfold zs at this ⊢
    rw [List.map_cons, List.sum_cons, List.sum_cons, this]
    omega
theorem zs_get {cs : List Nat} {i : Nat} {z : Int} (h : (zs cs)[i]? = some z) : ∃ c : Nat, cs[i]? = some c ∧ z = c := by
  unfold zs at h
  rw [List.getElem?_map] at h
  cases e : cs[i]? with
  | none => rw [e] at h; cases h
  | some x => rw [e] at h; exact ⟨x, rfl, (Option.some.inj h).symm⟩
theorem zs_at {cs : List Nat} {i c : Nat} (h : cs[i]? = some c) : atI ((zs cs).map PyData.int) (i : Nat) = some (.int (c : Nat)) := by
  refine at_nat ?_
  unfold zs
  rw [List.getElem?_map, List.getElem?_map, h]; rfl
theorem le_sum {cs : List Nat} {c : Nat} (h : c ∈ cs) : c ≤ cs.sum := by
  induction cs with
  | nil => cases h
  | cons d ds ih =>
    rw [List.sum_cons]
    rcases List.mem_cons.mp h with z | z
    · omega
    · have := ih z; omega
theorem dataLt_s (a b : Spot) : PySem.W.dataLt (sD a) (sD b) = decide (sLt a b) := by
  unfold sD sLt
  rw [PySem.W.dataLt_ii]
  congr 1
  simp only [eq_iff_iff]
  constructor <;> intro h <;> omega
theorem eqv_s (a b : Spot) : PyData.eqv (sD a) (sD b) = decide (a = b) := by
  unfold sD
  simp [PyData.eqv, PyData.eqvAll]
  obtain ⟨a1, a2⟩ := a
  obtain ⟨b1, b2⟩ := b
  by_cases h1 : a1 = b1 <;> by_cases h2 : a2 = b2 <;> simp [h1, h2] <;> omega
theorem alike_s (a b : Spot) : PySem.W.alike (sD a) (sD b) = true := by simp [sD, PySem.W.alike, PySem.W.alikeAll]
theorem alike_p (a b : Spot × Spot) : PySem.W.alike (pD a) (pD b) = true := by simp [pD, PySem.W.alike, PySem.W.alikeAll, alike_s]
theorem dataLt_p (a b : Spot × Spot) : PySem.W.dataLt (pD a) (pD b) = decide (pLt a b) := by
  unfold pD pLt
  rw [PySem.W.dataLt_pair (alike_s _ _) (alike_s _ _), eqv_s, eqv_s, dataLt_s, dataLt_s]
  by_cases h1 : a.1 = b.1
  · have n1 : ¬ sLt a.1 b.1 := by rw [h1]; unfold sLt; omega
    by_cases h2 : a.2 = b.2
    · have n2 : ¬ sLt a.2 b.2 := by rw [h2]; unfold sLt; omega
      simp [h1, h2, n1, n2]
      rw [h1] at n1; rw [h2] at n2
      simp [n1, n2]
    · simp [h1, h2]
      intro h
      rw [h1] at n1
      exact absurd h n1
  · simp [h1]
theorem sh_sD (s : Spot) : Sh 1 (sD s) := sh_tup fun d hd => by
  rcases List.mem_cons.mp hd with z | z
  · subst z; exact sh_int _
  · rw [List.mem_singleton.mp z]; exact sh_int _
theorem sh_pD (p : Spot × Spot) : Sh 2 (pD p) := sh_tup fun d hd => by
  rcases List.mem_cons.mp hd with z | z
  · subst z; exact sh_sD _
  · rw [List.mem_singleton.mp z]; exact sh_sD _
/-! ### what is taken -/
def kS (s : Spot) : List Key := kI [(s.1 : Int), (s.2 : Int)]
theorem kS_inj {a b : Spot} (h : kS a = kS b) : a = b := by
  unfold kS kI at h
  simp at h
  obtain ⟨a1, a2⟩ := a
  obtain ⟨b1, b2⟩ := b
  simp at h
  ext <;> simp <;> omega
def takenOf (ps : List (Spot × Spot)) : List (List Key × PyData) := ps.foldl (fun t p => putD (putD t (kS p.1) (.bool true)) (kS p.2) (.bool true)) []
theorem putD_none {κ : Type} [DecidableEq κ] {kvs : List (κ × PyData)} {k k' : κ} {v : PyData} (h : valD kvs k' = none) (hk : k ≠ k') : valD (putD kvs k v) k' = none := by
  unfold valD at h ⊢
  simp only [Option.map_eq_none_iff, List.find?_eq_none] at h ⊢
  intro x hx
  unfold putD at hx
  split at hx
  · obtain ⟨y, hy, e⟩ := List.mem_map.mp hx
    have := h y hy
    split at e
    · subst e; simpa using by rename_i q; rw [q]; exact hk
    · subst e; exact this
  · rcases List.mem_append.mp hx with z | z
    · exact h x z
    · rw [List.mem_singleton.mp z]; simpa using hk
theorem putD_len {κ : Type} [DecidableEq κ] {kvs : List (κ × PyData)} {k : κ} {v : PyData} : (putD kvs k v).length ≤ kvs.length + 1 := by
  unfold putD
  split
  · simp
  · simp
theorem taken_app (ps : List (Spot × Spot)) (p : Spot × Spot) : takenOf (ps ++ [p]) = putD (putD (takenOf ps) (kS p.1) (.bool true)) (kS p.2) (.bool true) := by simp [takenOf]
theorem rev_ind {α : Type} {P : List α → Prop} (h0 : P []) (h1 : ∀ l a, P l → P (l ++ [a])) (l : List α) : P l := by
  have : ∀ r : List α, P r.reverse := fun r => by
    induction r with
    | nil => exact h0
    | cons a r ih => rw [List.reverse_cons]; exact h1 _ _ ih
  have q := this l.reverse
  rw [List.reverse_reverse] at q
  exact q
theorem taken_len (ps : List (Spot × Spot)) : (takenOf ps).length ≤ 2 * ps.length := by
  induction ps using rev_ind with
  | h0 => simp [takenOf]
  | h1 ps p ih =>
    rw [taken_app]
    have h1 := putD_len (kvs := putD (takenOf ps) (kS p.1) (.bool true)) (k := kS p.2) (v := .bool true)
    have h2 := putD_len (kvs := takenOf ps) (k := kS p.1) (v := .bool true)
    simp
    omega
theorem taken_none (ps : List (Spot × Spot)) (s : Spot) (h : s ∉ tSpots ps) : valD (takenOf ps) (kS s) = none := by
  induction ps using rev_ind with
  | h0 => simp [takenOf, valD]
  | h1 ps p ih =>
    rw [taken_app]
    have h' : s ∉ tSpots ps ∧ s ≠ p.1 ∧ s ≠ p.2 := by simpa [tSpots, not_or] using h
    exact putD_none (putD_none (ih h'.1) fun e => h'.2.1 (kS_inj e).symm) fun e => h'.2.2 (kS_inj e).symm
end Ewl

set_option maxRecDepth 100000
set_option maxHeartbeats 4000000
namespace Ewl
open PySem L2
theorem boot_tup : bootBuiltins "tuple" = some (.type "tuple") := by decide +kernel
section
variable {P : Program} {w : World} {K : PySem.W.Frag} {mg : Str → Option Value} {base : Heap}
def gCounts (ds : List PyData) (z : PyData) : Prop := ∃ M : Mach, MOk M ∧ ds = [cD M.cs] ∧ z = .bool true
theorem sc_counts : FnScope ["thing", "count"] ["thing"] (defScope (top 23)) := ⟨rfl, rfl, rfl, by decide +kernel, rfl, by decide +kernel, by decide +kernel⟩
theorem ok_counts {f : Addr} {fd : FuncData} (F : Fun K "are_counts" "are_counts" (top 23) f fd) (T : Tx mg) (f1 : Fn P w K mg base "is_whole" 1 (spD K gIsWhole)) : FnOk P w K mg base CX0 2 f fd ["thing"] (spD K gCounts) := by
  refine okD F sc_counts (fun ds z ⟨M, _, e, _⟩ => by rw [e]; rfl) fun cdv A outer s H E hr ds z ⟨M, hM, e1, e2⟩ => ?_
  subst e1 e2
  obtain ⟨t1, h1⟩ := T.mw
  obtain ⟨t2, h2⟩ := T.mc
  refine ⟨_, sv_nx (st_ifF (EvT.to (EvP.et (ep_or (et_tyNeS (d := cD M.cs) (ev_var (i := 0) rfl rfl) T.ty T.tuple boot_tup) fun _ => ep_or1 (et_not (et_chain op_le op_le ev_int (ev_callB call_len_seq (ea_cons (ev_var (i := 0) rfl rfl) ea_nil) rc_lenT T.len) rd_bool (fun _ => ev_gint h1) fun _ => rd_bool)))) ?_) sv_nil)
    (sv_nx (st_for (S := fun _ => [.d (cD M.cs), .x]) (items := (zs M.cs).map .int) (ei_tup (ev_var (i := 0) rfl rfl)) ?_)
      (sv_ret (st_ret (Ev.to (ev_cmp op_le (ev_callB (cr_sumT rfl) (ea_cons (ev_var (i := 0) rfl rfl) ea_nil) rc_sumT T.sum) (ev_gint h2) rd_bool) ?_))))⟩
  · have := hM.len1
    have := hM.len2
    simp [zs_len]
    omega
  · intro i d hd
    obtain ⟨z, hz, rfl⟩ := map_get hd
    obtain ⟨c, hc, rfl⟩ := zs_get hz
    have hp := hM.pos c (List.mem_of_getElem? hc)
    refine ⟨_, _, tg_name (i := 1) rfl (by simp) sc_counts.nd, Sv.to (sv_nx (st_ifF (EvT.to (EvP.et (ep_or (et_not (et_val (ev_call f1 hr (ea_cons (ev_var (i := 1) rfl rfl) ea_nil) ⟨_, rfl, rfl⟩))) fun _ => ep_or1 (et_cmp op_lt (ev_var (i := 1) rfl rfl) ev_int rd_bool))) ?_) sv_nil) (sv_drop 1 sv_nil)) rfl⟩
    simp [tyD]
    omega
  · have := hM.sum
    rw [zs_sum]
    simp
    omega
def gSpotOf (ds : List PyData) (z : PyData) : Prop := ∃ (cs : List Nat) (s : Spot), SpOk cs s ∧ ds = [cD cs, sD s] ∧ z = .bool true
theorem sc_spotOf : FnScope ["counts", "thing", "wheel", "place"] ["counts", "thing"] (defScope (top 24)) := ⟨rfl, rfl, rfl, by decide +kernel, rfl, by decide +kernel, by decide +kernel⟩
theorem ok_spotOf {f : Addr} {fd : FuncData} (F : Fun K "is_spot_of" "is_spot_of" (top 24) f fd) (T : Tx mg) (f1 : Fn P w K mg base "is_whole" 1 (spD K gIsWhole)) (f2 : Fn P w K mg base "is_tuple_of" 1 (spD K gTupleOf)) : FnOk P w K mg base CX0 2 f fd ["counts", "thing"] (spD K gSpotOf) := by
  refine okD F sc_spotOf (fun ds z ⟨M, _, _, e, _⟩ => by rw [e]; rfl) fun cdv A outer s H E hr ds z ⟨cs, ⟨w, p⟩, ⟨c, hc, hp⟩, e1, e2⟩ => ?_
  subst e1 e2
  have hw : w < cs.length := (List.getElem?_eq_some_iff.mp hc).1
  simp only at hc hp
  refine ⟨_, sv_nx (st_ifF (EvT.to (et_not (et_val (ev_call f2 hr (ea_cons (ev_var (i := 1) rfl rfl) (ea_cons ev_int ea_nil)) ⟨_, _, rfl, rfl⟩))) rfl) sv_nil)
    (sv_nx (st_asgT (ev_var (i := 1) rfl rfl) (tg_tup (tgs_cons (tg_name (i := 2) rfl (by simp) sc_spotOf.nd) (tgs_cons (tg_name (i := 3) rfl (by simp) sc_spotOf.nd) tgs_nil))))
    (sv_nx (st_ifF (EvT.to (EvP.et (ep_or (et_not (et_val (ev_call f1 hr (ea_cons (ev_var (i := 2) rfl rfl) ea_nil) ⟨_, rfl, rfl⟩))) fun _ => ep_or1 (et_not (et_val (ev_call f1 hr (ea_cons (ev_var (i := 3) rfl rfl) ea_nil) ⟨_, rfl, rfl⟩))))) rfl) sv_nil)
    (sv_ret (st_ret (Ev.to (ev_and (ev_chain op_le op_lt ev_int (ev_var (i := 2) rfl rfl) rd_bool (fun _ => ev_callB call_len_seq (ea_cons (ev_var (i := 0) rfl rfl) ea_nil) rc_lenT T.len) fun _ => rd_bool) fun _ =>
      ev_one (ev_chain op_le op_lt ev_int (ev_var (i := 3) rfl rfl) rd_bool (fun _ => ev_ix ix_tup (ev_var (i := 0) rfl rfl) (ev_var (i := 2) rfl rfl) (rd_ixT (zs_at hc))) fun _ => rd_bool)) ?_)))))⟩
  simp [zs_len, hw, hp]
def gPairOf (ds : List PyData) (z : PyData) : Prop := ∃ (cs : List Nat) (p : Spot × Spot), SpOk cs p.1 ∧ SpOk cs p.2 ∧ ds = [cD cs, pD p] ∧ z = .bool true
theorem sc_pairOf : FnScope ["counts", "thing"] ["counts", "thing"] (defScope (top 25)) := ⟨rfl, rfl, rfl, by decide +kernel, rfl, by decide +kernel, by decide +kernel⟩
theorem ok_pairOf {f : Addr} {fd : FuncData} (F : Fun K "is_pair_of" "is_pair_of" (top 25) f fd) (T : Tx mg) (f1 : Fn P w K mg base "is_spot_of" 2 (spD K gSpotOf)) (f2 : Fn P w K mg base "is_tuple_of" 1 (spD K gTupleOf)) : FnOk P w K mg base CX0 3 f fd ["counts", "thing"] (spD K gPairOf) := by
  refine okD F sc_pairOf (fun ds z ⟨_, _, _, _, e, _⟩ => by rw [e]; rfl) fun cdv A outer s H E hr ds z ⟨cs, p, h1, h2, e1, e2⟩ => ?_
  subst e1 e2
  exact ⟨_, sv_ret (st_ret (Ev.to (ev_and (ev_call f2 (hr.mono (by decide)) (ea_cons (ev_var (i := 1) rfl rfl) (ea_cons ev_int ea_nil)) ⟨_, _, rfl, rfl⟩) fun _ => ev_and (ev_call f1 hr (ea_cons (ev_var (i := 0) rfl rfl) (ea_cons (ev_ix ix_tup (ev_var (i := 1) rfl rfl) ev_int (rd_ixT rfl)) ea_nil)) ⟨cs, p.1, h1, rfl, rfl⟩) fun _ =>
    ev_one (ev_call f1 hr (ea_cons (ev_var (i := 0) rfl rfl) (ea_cons (ev_ix ix_tup (ev_var (i := 1) rfl rfl) ev_int (rd_ixT rfl)) ea_nil)) ⟨cs, p.2, h2, rfl, rfl⟩)) rfl))⟩
def gNeedTouches (ds : List PyData) (z : PyData) : Prop := ∃ M : Mach, MOk M ∧ ds = [cD M.cs, tD M.ts] ∧ z = .none
theorem sc_needTouches : FnScope ["counts", "touches", "taken", "number", "pair"] ["counts", "touches"] (defScope (top 26)) := ⟨rfl, rfl, rfl, by decide +kernel, rfl, by decide +kernel, by decide +kernel⟩
theorem pD_depth (p q : Spot × Spot) : min (pD p).depth (pD q).depth ≤ 8 := by have := (sh_pD p).2; omega
theorem sD_depth (p q : Spot) : min (sD p).depth (sD q).depth ≤ 8 := by have := (sh_sD p).2; omega
theorem spots_in {ts : List (Spot × Spot)} {i : Nat} {p : Spot × Spot} (nd : (tSpots ts).Nodup) (h : ts[i]? = some p) : p.1 ∉ tSpots (ts.take i) ∧ p.2 ∉ tSpots (ts.take i) ∧ p.1 ≠ p.2 := by
  have e : ts = ts.take i ++ p :: ts.drop (i + 1) := by
    have hi := (List.getElem?_eq_some_iff.mp h)
    obtain ⟨hi, hp⟩ := hi
    rw [← hp]; simp
  rw [e] at nd
  have e2 : tSpots (ts.take i ++ p :: ts.drop (i + 1)) = tSpots (ts.take i) ++ ([p.1, p.2] ++ tSpots (ts.drop (i + 1))) := by simp [tSpots]
  rw [e2, List.nodup_append] at nd
  obtain ⟨_, n2, n3⟩ := nd
  refine ⟨fun h => n3 _ h p.1 (by simp) rfl, fun h => n3 _ h p.2 (by simp) rfl, ?_⟩
  simp at n2
  exact n2.1.1
theorem ok_needTouches {f : Addr} {fd : FuncData} (F : Fun K "need_touches" "need_touches" (top 26) f fd) (T : Tx mg) (f1 : Fn P w K mg base "is_pair_of" 3 (spD K gPairOf)) : FnOk P w K mg base CX0 4 f fd ["counts", "touches"] (spD K gNeedTouches) := by
  refine okN F sc_needTouches (fun ds z ⟨_, _, e, _⟩ => by rw [e]; rfl) (fun ds z ⟨_, _, _, e⟩ => e) fun cdv A outer s H E hr ds z ⟨M, hM, e1, e2⟩ => ?_
  subst e1 e2
  refine ⟨_, sv_nx (st_newT (i := 2) rfl (by simp) sc_needTouches.nd) (sv_one (st_for (S := fun i => [.d (cD M.cs), .d (tD M.ts), .dt (takenOf (M.ts.take i)), .x, .x]) (items := enumD 0 (M.ts.map pD)) (ei_enumT (ea_cons (ev_var (i := 1) rfl rfl) ea_nil) T.enum) ?_))⟩
  intro i d hd
  have hi : i < M.ts.length := by
    have := (List.getElem?_eq_some_iff.mp hd).1
    simpa [enumD_len] using this
  have hp : M.ts[i]? = some M.ts[i] := by simp [hi]
  generalize M.ts[i] = p at hp
  have ed : d = .tuple [.int (i : Nat), pD p] := by
    have := enumD_get (xs := M.ts.map pD) (i := i) (x := pD p) (by rw [List.getElem?_map, hp]; rfl)
    rw [this] at hd; exact (Option.some.inj hd).symm
  subst ed
  obtain ⟨s1, s2, lt⟩ := hM.sp p (List.mem_of_getElem? hp)
  obtain ⟨n1, n2, ne⟩ := spots_in hM.nd hp
  have hl : (takenOf (M.ts.take i)).length ≤ 1000 := by
    have h1 := taken_len (M.ts.take i)
    have h2 := hM.tl
    rw [List.length_take] at h1
    omega
  have hl2 : (putD (takenOf (M.ts.take i)) (kS p.1) (.bool true)).length ≤ 1000 := by
    have h1 := taken_len (M.ts.take i)
    have h2 := hM.tl
    rw [List.length_take] at h1
    have h3 := putD_len (kvs := takenOf (M.ts.take i)) (k := kS p.1) (v := .bool true)
    omega
  refine ⟨_, _, tg_tup (tgs_cons (tg_name (i := 3) rfl (by simp) sc_needTouches.nd) (tgs_cons (tg_name (i := 4) rfl (by simp) sc_needTouches.nd) tgs_nil)),
    Sv.to (sv_nx (st_ifF (EvT.to (EvP.et (ep_or (et_not (et_val (ev_call f1 hr (ea_cons (ev_var (i := 0) rfl rfl) (ea_cons (ev_var (i := 4) rfl rfl) ea_nil)) ⟨_, p, s1, s2, rfl, rfl⟩))) fun _ => ep_or1 (et_cmp (op_geD hr.u64) (ev_ix ix_tup (ev_var (i := 4) rfl rfl) ev_int (rd_ixT rfl)) (ev_ix ix_tup (ev_var (i := 4) rfl rfl) ev_int (rd_ixT rfl)) (rd_ord (alike_s p.1 p.2) (by simp [sD]) (sD_depth p.1 p.2))))) ?_) sv_nil)
      (sv_nx (st_ifF (EvT.to (EvP.et (ep_and (et_cmp op_gt (ev_var (i := 3) rfl rfl) ev_int rd_bool) fun hi0 => ep_and1 (c := false) ?_)) ?_) sv_nil)
      (sv_nx (st_ifF (EvT.to (EvP.et (ep_or (et_inT (i := 2) (ns := [(p.1.1 : Int), (p.1.2 : Int)]) rfl (ev_ix ix_tup (ev_var (i := 4) rfl rfl) ev_int (rd_ixT rfl)) rfl hr.u1) fun _ => ep_or1 (et_inT (i := 2) (ns := [(p.2.1 : Int), (p.2.2 : Int)]) rfl (ev_ix ix_tup (ev_var (i := 4) rfl rfl) ev_int (rd_ixT rfl)) rfl hr.u1))) ?_) sv_nil)
      (sv_nx (st_dputT (i := 2) (ns := [(p.1.1 : Int), (p.1.2 : Int)]) rfl ev_bl (ev_ix ix_tup (ev_var (i := 4) rfl rfl) ev_int (rd_ixT rfl)) rfl rfl hl hr.u1)
      (sv_nx (st_dputT (i := 2) (ns := [(p.2.1 : Int), (p.2.2 : Int)]) rfl ev_bl (ev_ix ix_tup (ev_var (i := 4) rfl rfl) ev_int (rd_ixT rfl)) rfl rfl hl2 hr.u1) (sv_drop 3 (sv_drop 4 sv_nil))))))) ?_⟩
  · simp [dataLt_s, lt]
  · have hi1 : 0 < i := by simpa using hi0
    have hq : M.ts[i - 1]? = some M.ts[i - 1] := List.getElem?_eq_getElem (by omega)
    generalize M.ts[i - 1] = q at hq
    have lq := hM.ri (i - 1) q p hq (by rw [show i - 1 + 1 = i by omega]; exact hp)
    have ea : atI (M.ts.map pD) ((i : Nat) - 1 : Int) = some (pD q) := by
      have : ((i : Nat) : Int) - 1 = ((i - 1 : Nat) : Int) := by omega
      rw [this]
      exact at_nat (by rw [List.getElem?_map, hq]; rfl)
    exact EvT.to (et_cmp (op_leD hr.u64) (ev_var (i := 4) rfl rfl) (ev_ix ix_tup (ev_var (i := 1) rfl rfl) (ev_bin op_sub (ev_var (i := 3) rfl rfl) ev_int rd_int) (rd_ixT ea)) (rd_ord (alike_p p q) (by simp [pD]) (pD_depth p q))) (by simp [dataLt_p, lq])
  · simp
  · have h1 := taken_none _ _ n1
    have h2 := taken_none _ _ n2
    unfold kS at h1 h2
    rw [h1, h2]; rfl
  · rw [take_more hp, taken_app]; rfl
def gNeedMachine (ds : List PyData) (z : PyData) : Prop := ∃ M : Mach, MOk M ∧ ds = [mD M] ∧ z = .none
theorem sc_needMachine : FnScope ["thing", "counts", "touches"] ["thing"] (defScope (top 27)) := ⟨rfl, rfl, rfl, by decide +kernel, rfl, by decide +kernel, by decide +kernel⟩
theorem ok_needMachine {f : Addr} {fd : FuncData} (F : Fun K "need_machine" "need_machine" (top 27) f fd) (T : Tx mg) (f1 : Fn P w K mg base "is_tuple_of" 1 (spD K gTupleOf)) (f2 : Fn P w K mg base "are_counts" 2 (spD K gCounts)) (f3 : Fn P w K mg base "need_touches" 4 (spD K gNeedTouches)) : FnOk P w K mg base CX0 5 f fd ["thing"] (spD K gNeedMachine) := by
  refine okN F sc_needMachine (fun ds z ⟨_, _, e, _⟩ => by rw [e]; rfl) (fun ds z ⟨_, _, _, e⟩ => e) fun cdv A outer s H E hr ds z ⟨M, hM, e1, e2⟩ => ?_
  subst e1 e2
  obtain ⟨t1, h1⟩ := T.mt
  refine ⟨_, sv_nx (st_ifF (EvT.to (et_not (et_val (ev_call f1 (hr.mono (by decide)) (ea_cons (ev_var (i := 0) rfl rfl) (ea_cons ev_int ea_nil)) ⟨_, _, rfl, rfl⟩))) rfl) sv_nil)
    (sv_nx (st_asgT (ev_var (i := 0) rfl rfl) (tg_tup (tgs_cons (tg_name (i := 1) rfl (by simp) sc_needMachine.nd) (tgs_cons (tg_name (i := 2) rfl (by simp) sc_needMachine.nd) tgs_nil))))
    (sv_nx (st_ifF (EvT.to (et_not (et_val (ev_call f2 (hr.mono (by decide)) (ea_cons (ev_var (i := 1) rfl rfl) ea_nil) ⟨M, hM, rfl, rfl⟩))) rfl) sv_nil)
    (sv_nx (st_ifF (EvT.to (EvP.et (ep_or (et_tyNeS (d := tD M.ts) (ev_var (i := 2) rfl rfl) T.ty T.tuple boot_tup) fun _ => ep_or1 (et_cmp op_gt (ev_callB call_len_seq (ea_cons (ev_var (i := 2) rfl rfl) ea_nil) rc_lenT T.len) (ev_gint h1) rd_bool))) ?_) sv_nil)
    (sv_one (st_drop (ev_call f3 hr (ea_cons (ev_var (i := 1) rfl rfl) (ea_cons (ev_var (i := 2) rfl rfl) ea_nil)) ⟨M, hM, rfl, rfl⟩))))))⟩
  have := hM.tl
  simp
  omega
def spotsL (cs : List Nat) : List (List Spot) := (List.range cs.length).map fun w => (List.range (cs.getD w 0)).map fun p => (w, p)
def gSpots (ds : List PyData) (z : PyData) : Prop := ∃ M : Mach, MOk M ∧ ds = [mD M] ∧ z = .tuple ((spotsL M.cs).flatten.map sD)
theorem sc_spots : FnScope ["machine", "wheel", "count", "place"] ["machine"] (defScope (top 28)) := ⟨rfl, rfl, rfl, by decide +kernel, rfl, by decide +kernel, by decide +kernel⟩
theorem spots_len {cs : List Nat} : (spotsL cs).flatten.length = cs.sum := by
  have : ∀ cs : List Nat, ∀ k : Nat, (((List.range cs.length).map fun w => (List.range (cs.getD w 0)).map fun p => (w + k, p)).flatten).length = cs.sum := by
    intro cs
    induction cs with
    | nil => intro k; rfl
    | cons c cs ih =>
      intro k
      have := ih (k + 1)
      rw [List.length_cons, List.range_succ_eq_map, List.map_cons, List.flatten_cons, List.length_append, List.map_map, List.sum_cons]
      rw [← this]
      simp [Function.comp_def, Nat.add_assoc, Nat.add_comm 1 k]
  exact this cs 0
theorem ok_spots {f : Addr} {fd : FuncData} (F : Fun K "spots" "spots" (top 28) f fd) (T : Tx mg) (f1 : Fn P w K mg base "need_machine" 5 (spD K gNeedMachine)) : FnOk P w K mg base CX0 6 f fd ["machine"] (spD K gSpots) := by
  refine okD F sc_spots (fun ds z ⟨_, _, e, _⟩ => by rw [e]; rfl) fun cdv A outer s H E hr ds z ⟨M, hM, e1, e2⟩ => ?_
  subst e1 e2
  refine ⟨_, sv_nx (st_drop (ev_call f1 hr (ea_cons (ev_var (i := 0) rfl rfl) ea_nil) ⟨M, hM, rfl, rfl⟩))
    (sv_ret (st_ret (Ev.to (ev_callTy call_tuple_of (ea_cons (EvL.ev (el_lc2 (yss := (spotsL M.cs).map (List.map sD)) (vs1 := [3]) (own := [("wheel", 1), ("count", 2), ("place", 3)]) (ei_enumT (ea_cons (ev_ix ix_tup (ev_var (i := 0) rfl rfl) ev_int (rd_ixT rfl)) ea_nil) T.enum) (blkOk_by (N := ["machine", "wheel", "count", "place"]) (sc := defScope (top 28)) (by decide +kernel)) (by decide) ?_ ?_ ?_ sc_spots.nd)) ea_nil) rc_tupL T.tuple) ?_)))⟩
  · simp [spotsL, enumD_len, zs_len]
  · have : ((spotsL M.cs).map (List.map sD)).flatten.length = M.cs.sum := by rw [← spots_len, ← List.map_flatten, List.length_map]
    rw [this]
    have := hM.sum
    omega
  · intro i d ys hd hy
    have hi : i < M.cs.length := by
      have := (List.getElem?_eq_some_iff.mp hd).1
      simpa [enumD_len, zs_len] using this
    have hc : M.cs[i]? = some M.cs[i] := by simp [hi]
    have hle := le_sum (List.mem_of_getElem? hc)
    have hs := hM.sum
    have ed : d = .tuple [.int (i : Nat), .int (M.cs[i] : Nat)] := by
      have := enumD_get (xs := (zs M.cs).map PyData.int) (i := i) (x := .int (M.cs[i] : Nat)) (by simp [zs, hi])
      rw [this] at hd; exact (Option.some.inj hd).symm
    have ey : ys = (List.range M.cs[i]).map fun p => sD (i, p) := by
      have e : ((spotsL M.cs).map (List.map sD))[i]? = some ((List.range M.cs[i]).map fun p => sD (i, p)) := by simp [spotsL, hi]
      rw [e] at hy; exact (Option.some.inj hy).symm
    generalize M.cs[i] = c at *
    subst ed ey
    refine ⟨_, _, _, rngD 0 c, fun j => [.d (mD M), .d (.int (i : Nat)), .d (.int (c : Nat)), .d (.int (j : Nat))], [3], ?_, ?_, ?_, ?_, ?_, fun s' H' C cl fp => ⟨tg_tup (tgs_cons (tg_name (i := 1) rfl (by simp [wipeS]) sc_spots.nd) (tgs_cons (tg_name (i := 2) rfl (by simp [wipeS]) sc_spots.nd) tgs_nil)),
      ei_rng1 (j := c) (ea_cons (ev_var (i := 2) rfl rfl) ea_nil) T.range (by omega), fun j d1 y h1 h2 => ?_⟩⟩
    · simp
    · exact fun j hj => hj
    · rfl
    · intro j; rfl
    · simp [rngD_len]
    · have hj : j < c := by
        have := (List.getElem?_eq_some_iff.mp h1).1
        simpa [rngD_len] using this
      have e1 : d1 = .int (j : Nat) := by
        rw [rngD_get hj] at h1
        have := (Option.some.inj h1).symm
        simpa using this
      have e2 : y = sD (i, j) := by
        have : ((List.range c).map fun p => sD (i, p))[j]? = some (sD (i, j)) := by simp [hj]
        rw [this] at h2; exact (Option.some.inj h2).symm
      subst e1 e2
      exact ⟨tg_name (i := 3) rfl (by simp [wipeS]) sc_spots.nd, ev_tup (ea_cons (ev_var (i := 1) rfl rfl) (ea_cons (ev_var (i := 3) rfl rfl) ea_nil))⟩
  · rw [← List.map_flatten]
end
end Ewl

set_option maxRecDepth 100000
set_option maxHeartbeats 4000000
set_option exponentiation.threshold 10000
namespace Ewl
open PySem L2
def LOk (cs : List Nat) (L : List (List Rat)) : Prop := L.map List.length = cs
theorem LOk.len {cs : List Nat} {L : List (List Rat)} (h : LOk cs L) : L.length = cs.length := by rw [← h, List.length_map]
theorem LOk.get {cs : List Nat} {L : List (List Rat)} {i c : Nat} (h : LOk cs L) (hc : cs[i]? = some c) : ∃ r, L[i]? = some r ∧ r.length = c := by
  rw [← h, List.getElem?_map] at hc
  cases e : L[i]? with
  | none => rw [e] at hc; cases hc
  | some r => rw [e] at hc; exact ⟨r, rfl, Option.some.inj hc⟩
theorem enum_item {xs : List PyData} {i : Nat} {d : PyData} (h : (enumD 0 xs)[i]? = some d) : ∃ x, xs[i]? = some x ∧ d = .tuple [.int (i : Nat), x] := by
  have hi : i < xs.length := by
    have := (List.getElem?_eq_some_iff.mp h).1
    simpa [enumD_len] using this
  have hx : xs[i]? = some xs[i] := by simp [hi]
  rw [enumD_get hx] at h
  exact ⟨_, hx, (Option.some.inj h).symm⟩
section
variable {P : Program} {w : World} {K : PySem.W.Frag} {mg : Str → Option Value} {base : Heap}
def gNeedSpot (ds : List PyData) (z : PyData) : Prop := ∃ (M : Mach) (s : Spot), MOk M ∧ SpOk M.cs s ∧ ds = [mD M, sD s] ∧ z = .none
theorem sc_needSpot : FnScope ["machine", "thing"] ["machine", "thing"] (defScope (top 29)) := ⟨rfl, rfl, rfl, by decide +kernel, rfl, by decide +kernel, by decide +kernel⟩
theorem ok_needSpot {f : Addr} {fd : FuncData} (F : Fun K "need_spot" "need_spot" (top 29) f fd) (T : Tx mg) (f1 : Fn P w K mg base "need_machine" 5 (spD K gNeedMachine)) (f2 : Fn P w K mg base "is_spot_of" 2 (spD K gSpotOf)) : FnOk P w K mg base CX0 6 f fd ["machine", "thing"] (spD K gNeedSpot) := by
  refine okN F sc_needSpot (fun ds z ⟨_, _, _, _, e, _⟩ => by rw [e]; rfl) (fun ds z ⟨_, _, _, _, _, e⟩ => e) fun cdv A outer s H E hr ds z ⟨M, sp, hM, hs, e1, e2⟩ => ?_
  subst e1 e2
  exact ⟨_, sv_nx (st_drop (ev_call f1 hr (ea_cons (ev_var (i := 0) rfl rfl) ea_nil) ⟨M, hM, rfl, rfl⟩))
    (sv_one (st_ifF (EvT.to (et_not (et_val (ev_call f2 (hr.mono (by decide)) (ea_cons (ev_ix ix_tup (ev_var (i := 0) rfl rfl) ev_int (rd_ixT rfl)) (ea_cons (ev_var (i := 1) rfl rfl) ea_nil)) ⟨M.cs, sp, hs, rfl, rfl⟩))) rfl) sv_nil))⟩
def gNeedLoad (ds : List PyData) (z : PyData) : Prop := ∃ (M : Mach) (L : List (List Rat)), MOk M ∧ LOk M.cs L ∧ ds = [mD M, lD L] ∧ z = .none
theorem sc_needLoad : FnScope ["machine", "thing", "counts", "wheel", "count", "row", "place", "worth"] ["machine", "thing"] (defScope (top 32)) := ⟨rfl, rfl, rfl, by decide +kernel, rfl, by decide +kernel, by decide +kernel⟩
theorem ok_needLoad {f : Addr} {fd : FuncData} (F : Fun K "need_load" "need_load" (top 32) f fd) (T : Tx mg) (f1 : Fn P w K mg base "need_machine" 5 (spD K gNeedMachine)) (f2 : Fn P w K mg base "is_tuple_of" 1 (spD K gTupleOf)) (f3 : Fn P w K mg base "is_fraction" 2 (spD K gFrac)) : FnOk P w K mg base CX0 6 f fd ["machine", "thing"] (spD K gNeedLoad) := by
  refine okN F sc_needLoad (fun ds z ⟨_, _, _, _, e, _⟩ => by rw [e]; rfl) (fun ds z ⟨_, _, _, _, _, e⟩ => e) fun cdv A outer s H E hr ds z ⟨M, L, hM, hL, e1, e2⟩ => ?_
  subst e1 e2
  refine ⟨_, sv_nx (st_drop (ev_call f1 hr (ea_cons (ev_var (i := 0) rfl rfl) ea_nil) ⟨M, hM, rfl, rfl⟩))
    (sv_nx (st_asg (ev_ix ix_tup (ev_var (i := 0) rfl rfl) ev_int (rd_ixT rfl)) (i := 2) rfl (by simp) sc_needLoad.nd)
    (sv_nx (st_ifF (EvT.to (et_not (et_val (ev_call f2 (hr.mono (by decide)) (ea_cons (ev_var (i := 1) rfl rfl) (ea_cons (ev_callB call_len_seq (ea_cons (ev_var (i := 2) rfl rfl) ea_nil) rc_lenT T.len) ea_nil)) ⟨_, _, rfl, rfl⟩))) ?_) sv_nil)
    (sv_nx (st_for (S := fun _ => [.d (mD M), .d (lD L), .d (cD M.cs), .x, .x, .x, .x, .x]) (items := enumD 0 ((zs M.cs).map .int)) (ei_enumT (ea_cons (ev_var (i := 2) rfl rfl) ea_nil) T.enum) ?_)
    (sv_one (st_for (S := fun _ => [.d (mD M), .d (lD L), .d (cD M.cs), .x, .x, .x, .x, .x]) (items := enumD 0 (L.map rowD)) (ei_enumT (ea_cons (ev_var (i := 1) rfl rfl) ea_nil) T.enum) ?_)))))⟩
  · simp [zs_len, hL.len]
  · intro i d hd
    obtain ⟨x, hx, rfl⟩ := enum_item hd
    obtain ⟨z, hz, rfl⟩ := map_get hx
    obtain ⟨c, hc, rfl⟩ := zs_get hz
    obtain ⟨r, hr', rfl⟩ := hL.get hc
    have er : atI (L.map rowD) (i : Nat) = some (rowD r) := at_nat (by rw [List.getElem?_map, hr']; rfl)
    refine ⟨_, _, tg_tup (tgs_cons (tg_name (i := 3) rfl (by simp) sc_needLoad.nd) (tgs_cons (tg_name (i := 4) rfl (by simp) sc_needLoad.nd) tgs_nil)),
      Sv.to (sv_nx (st_ifF (EvT.to (et_not (et_val (ev_call f2 (hr.mono (by decide)) (ea_cons (ev_ix ix_tup (ev_var (i := 1) rfl rfl) (ev_var (i := 3) rfl rfl) (rd_ixT er)) (ea_cons (ev_var (i := 4) rfl rfl) ea_nil)) ⟨_, _, rfl, rfl⟩))) ?_) sv_nil) (sv_drop 3 (sv_drop 4 sv_nil))) rfl⟩
    simp
  · intro i d hd
    obtain ⟨x, hx, rfl⟩ := enum_item hd
    obtain ⟨r, hr', rfl⟩ := map_get hx
    refine ⟨_, _, tg_tup (tgs_cons (tg_name (i := 3) rfl (by simp) sc_needLoad.nd) (tgs_cons (tg_name (i := 5) rfl (by simp) sc_needLoad.nd) tgs_nil)),
      Sv.to (sv_nx (st_for (S := fun _ => [.d (mD M), .d (lD L), .d (cD M.cs), .d (.int (i : Nat)), .x, .d (rowD r), .x, .x]) (items := enumD 0 (r.map fD)) (ei_enumT (ea_cons (ev_var (i := 5) rfl rfl) ea_nil) T.enum) ?_) (sv_drop 3 (sv_drop 5 sv_nil))) rfl⟩
    intro j d hd
    obtain ⟨x, hx, rfl⟩ := enum_item hd
    obtain ⟨q, hq, rfl⟩ := map_get hx
    exact ⟨_, _, tg_tup (tgs_cons (tg_name (i := 6) rfl (by simp) sc_needLoad.nd) (tgs_cons (tg_name (i := 7) rfl (by simp) sc_needLoad.nd) tgs_nil)),
      Sv.to (sv_nx (st_ifF (EvT.to (et_not (et_val (ev_call f3 (hr.mono (by decide)) (ea_cons (ev_var (i := 7) rfl rfl) ea_nil) ⟨q, rfl, rfl⟩))) rfl) sv_nil) (sv_drop 6 (sv_drop 7 sv_nil))) rfl⟩
def gIsLoad (ds : List PyData) (z : PyData) : Prop := ∃ (M : Mach) (L : List (List Rat)), MOk M ∧ LOk M.cs L ∧ ds = [mD M, lD L] ∧ z = .bool true
theorem sc_isLoad : FnScope ["machine", "thing"] ["machine", "thing"] (defScope (top 33)) := ⟨rfl, rfl, rfl, by decide +kernel, rfl, by decide +kernel, by decide +kernel⟩
theorem ok_isLoad {f : Addr} {fd : FuncData} (F : Fun K "is_load" "is_load" (top 33) f fd) (T : Tx mg) (f1 : Fn P w K mg base "need_load" 6 (spD K gNeedLoad)) : FnOk P w K mg base CX0 7 f fd ["machine", "thing"] (spD K gIsLoad) := by
  refine okD F sc_isLoad (fun ds z ⟨_, _, _, _, e, _⟩ => by rw [e]; rfl) fun cdv A outer s H E hr ds z ⟨M, L, hM, hL, e1, e2⟩ => ?_
  subst e1 e2
  exact ⟨_, sv_nx (st_try (sv_one (st_drop (ev_call f1 hr (ea_cons (ev_var (i := 0) rfl rfl) (ea_cons (ev_var (i := 1) rfl rfl) ea_nil)) ⟨M, L, hM, hL, rfl, rfl⟩)))) (sv_ret (st_ret ev_bl))⟩
def gNeedBeats (ds : List PyData) (z : PyData) : Prop := ∃ n : Nat, n ≤ 300 ∧ ds = [.int (n : Nat)] ∧ z = .none
theorem sc_needBeats : FnScope ["beats"] ["beats"] (defScope (top 34)) := ⟨rfl, rfl, rfl, by decide +kernel, rfl, by decide +kernel, by decide +kernel⟩
theorem ok_needBeats {f : Addr} {fd : FuncData} (F : Fun K "need_beats" "need_beats" (top 34) f fd) (T : Tx mg) (f1 : Fn P w K mg base "is_whole" 1 (spD K gIsWhole)) : FnOk P w K mg base CX0 2 f fd ["beats"] (spD K gNeedBeats) := by
  refine okN F sc_needBeats (fun ds z ⟨_, _, e, _⟩ => by rw [e]; rfl) (fun ds z ⟨_, _, _, e⟩ => e) fun cdv A outer s H E hr ds z ⟨n, hn, e1, e2⟩ => ?_
  subst e1 e2
  obtain ⟨t1, h1⟩ := T.mb
  refine ⟨_, sv_one (st_ifF (EvT.to (EvP.et (ep_or (et_not (et_val (ev_call f1 hr (ea_cons (ev_var (i := 0) rfl rfl) ea_nil) ⟨_, rfl, rfl⟩))) fun _ => ep_or1 (et_not (et_chain op_le op_le ev_int (ev_var (i := 0) rfl rfl) rd_bool (fun _ => ev_gint h1) fun _ => rd_bool)))) ?_) sv_nil)⟩
  simp [tyD]
  omega
end
end Ewl

set_option maxRecDepth 100000
set_option maxHeartbeats 4000000
set_option exponentiation.threshold 10000
/-! Loads: what the program does, over fractions. -/
namespace Ewl
open PySem L2
def atL (L : List (List Rat)) (s : Spot) : Rat := (L.getD s.1 []).getD s.2 0
def setAt (L : List (List Rat)) (s : Spot) (q : Rat) : List (List Rat) := L.set s.1 ((L.getD s.1 []).set s.2 q)
def zeroL (cs : List Nat) : List (List Rat) := cs.map fun c => List.replicate c (0 : Rat)
def addL (L L' : List (List Rat)) : List (List Rat) := List.zipWith (List.zipWith (· + ·)) L L'
def scaleL (L : List (List Rat)) (c : Rat) : List (List Rat) := L.map (List.map (· * c))
def readL (M : Mach) (L : List (List Rat)) : List Rat := M.ts.map fun p => (atL L p.1 + atL L p.2) / 2
def shareL (ts : List (Spot × Spot)) (rs : List Rat) (L : List (List Rat)) : List (List Rat) := (ts.zip rs).foldl (fun R pr => setAt (setAt R pr.1.1 pr.2) pr.1.2 pr.2) L
def rollR (r : List Rat) : List Rat := r.drop 1 ++ r.take 1
def rollL (L : List (List Rat)) : List (List Rat) := L.map rollR
def beatL (M : Mach) (L : List (List Rat)) : List (List Rat) := rollL (shareL M.ts (readL M L) L)
def itB (M : Mach) : Nat → List (List Rat) → List (List Rat)
  | 0, L => L
  | n + 1, L => beatL M (itB M n L)
def SzL (k : Nat) (L : List (List Rat)) : Prop := ∀ r ∈ L, ∀ q ∈ r, Sz k q
theorem SzL.mono {k l : Nat} {L : List (List Rat)} (h : SzL k L) (hl : k ≤ l) : SzL l L := fun r hr q hq => (h r hr q hq).mono hl
theorem setAt_len {cs : List Nat} {L : List (List Rat)} {s : Spot} {q : Rat} (h : LOk cs L) : LOk cs (setAt L s q) := by
  unfold LOk at h ⊢
  rw [← h]
  unfold setAt
  apply List.ext_getElem?
  intro i
  rw [List.getElem?_map, List.getElem?_map, List.getElem?_set]
  by_cases e : s.1 = i
  · subst e
    by_cases hi : s.1 < L.length
    · simp [hi]
    · simp [hi]
  · rw [if_neg e]
theorem zero_ok {cs : List Nat} : LOk cs (zeroL cs) := by
  unfold LOk zeroL
  rw [List.map_map]
  simp [Function.comp_def]
theorem LOk.spot {cs : List Nat} {L : List (List Rat)} {s : Spot} (h : LOk cs L) (hs : SpOk cs s) : ∃ r, L[s.1]? = some r ∧ s.2 < r.length ∧ r[s.2]? = some (atL L s) := by
  obtain ⟨c, hc, hp⟩ := hs
  obtain ⟨r, hr, hl⟩ := h.get hc
  refine ⟨r, hr, by omega, ?_⟩
  have hp' : s.2 < r.length := by omega
  unfold atL
  simp [hr, hp']
theorem add_ok {cs : List Nat} {L L' : List (List Rat)} (h : LOk cs L) (h' : LOk cs L') : LOk cs (addL L L') := by
  unfold LOk addL at *
  subst h
  apply List.ext_getElem?
  intro i
  have e2 : (L'.map List.length)[i]? = (L.map List.length)[i]? := by rw [h']
  rw [List.getElem?_map, List.getElem?_map] at e2
  rw [List.getElem?_map, List.getElem?_zipWith, List.getElem?_map]
  cases x1 : L[i]? with
  | none => rfl
  | some a =>
    cases x2 : L'[i]? with
    | none => rw [x1, x2] at e2; cases e2
    | some b =>
      rw [x1, x2] at e2
      have : b.length = a.length := Option.some.inj e2
      simp [this]
theorem scale_ok {cs : List Nat} {L : List (List Rat)} {c : Rat} (h : LOk cs L) : LOk cs (scaleL L c) := by
  unfold LOk scaleL at *
  rw [← h, List.map_map]
  simp [Function.comp_def]
theorem share_ok {cs : List Nat} : ∀ {ts : List (Spot × Spot)} {rs : List Rat} {L : List (List Rat)}, LOk cs L → LOk cs (shareL ts rs L)
  | [], _, _, h => h
  | _ :: _, [], _, h => h
  | p :: ts, r :: rs, L, h => share_ok (ts := ts) (rs := rs) (L := setAt (setAt L p.1 r) p.2 r) (setAt_len (setAt_len h))
theorem roll_len (r : List Rat) : (rollR r).length = r.length := by
  unfold rollR
  cases r <;> simp
theorem roll_ok {cs : List Nat} {L : List (List Rat)} (h : LOk cs L) : LOk cs (rollL L) := by
  unfold LOk rollL at *
  rw [← h, List.map_map]
  congr 1
  funext r
  exact roll_len r
theorem beat_ok {M : Mach} {L : List (List Rat)} (h : LOk M.cs L) : LOk M.cs (beatL M L) := roll_ok (share_ok h)
theorem it_ok {M : Mach} {L : List (List Rat)} (h : LOk M.cs L) : ∀ n, LOk M.cs (itB M n L)
  | 0 => h
  | n + 1 => beat_ok (it_ok h n)
theorem flat_len {cs : List Nat} {L : List (List Rat)} (h : LOk cs L) : L.flatten.length = cs.sum := by rw [List.length_flatten, ← h]
end Ewl

set_option maxRecDepth 100000
set_option maxHeartbeats 4000000
set_option exponentiation.threshold 10000
namespace Ewl
open PySem L2
theorem pair_eq {α : Type} {a b : α} (h : a = b) : b = a := h.symm
section
variable {P : Program} {w : World} {K : PySem.W.Frag} {mg : Str → Option Value} {base : Heap}
theorem rep_fD (c : Nat) : (List.replicate c [fD 0]).flatten = (List.replicate c (0 : Rat)).map fD := by
  induction c with
  | zero => rfl
  | succ n ih => rw [List.replicate_succ, List.flatten_cons, ih, List.replicate_succ]; rfl
def gEmpty (ds : List PyData) (z : PyData) : Prop := ∃ M : Mach, MOk M ∧ ds = [mD M] ∧ z = lD (zeroL M.cs)
theorem sc_empty : FnScope ["machine", "count"] ["machine"] (defScope (top 35)) := ⟨rfl, rfl, rfl, by decide +kernel, rfl, by decide +kernel, by decide +kernel⟩
theorem ok_empty {f : Addr} {fd : FuncData} (F : Fun K "empty" "empty" (top 35) f fd) (T : Tx mg) (f1 : Fn P w K mg base "need_machine" 5 (spD K gNeedMachine)) : FnOk P w K mg base CX0 6 f fd ["machine"] (spD K gEmpty) := by
  refine okD F sc_empty (fun ds z ⟨_, _, e, _⟩ => by rw [e]; rfl) fun cdv A outer s H E hr ds z ⟨M, hM, e1, e2⟩ => ?_
  subst e1 e2
  refine ⟨_, sv_nx (st_drop (ev_call f1 hr (ea_cons (ev_var (i := 0) rfl rfl) ea_nil) ⟨M, hM, rfl, rfl⟩))
    (sv_ret (st_ret (Ev.to (ev_callTy call_tuple_of (ea_cons (EvL.ev (el_lc (S := fun _ => [.d (mD M), .x]) (ys := (zeroL M.cs).map rowD) (own := [("count", 1)]) (ei_tup (ev_ix ix_tup (ev_var (i := 0) rfl rfl) ev_int (rd_ixT (d := cD M.cs) rfl))) (blkOk_by (N := ["machine", "count"]) (sc := defScope (top 35)) (by decide +kernel)) rfl ?_ ?_ ?_ sc_empty.nd)) ea_nil) rc_tupL T.tuple) rfl)))⟩
  · simp [zs_len, zeroL]
  · have := hM.len2
    simp [zs_len]
    omega
  · intro i d y hd hy
    obtain ⟨z, hz, rfl⟩ := map_get hd
    obtain ⟨c, hc, rfl⟩ := zs_get hz
    have hp := hM.pos c (List.mem_of_getElem? hc)
    have hle := le_sum (List.mem_of_getElem? hc)
    have hs := hM.sum
    have ey : y = rowD (List.replicate c 0) := by
      have : ((zeroL M.cs).map rowD)[i]? = some (rowD (List.replicate c 0)) := by simp [zeroL, hc]
      rw [this] at hy; exact (Option.some.inj hy).symm
    subst ey
    refine ⟨_, [1], _, fun j hj => hj, ?_, fun s' H' C cl fp => ⟨tg_name (i := 1) rfl (by simp) sc_empty.nd, Ev.to (ev_bin op_repTA (ev_tup (ea_cons (ev_tup (ea_cons ev_int (ea_cons ev_int ea_nil))) ea_nil)) (ev_var (i := 1) rfl rfl) (rd_repT (by omega) (by omega) (by simp) (by simp))) ?_⟩⟩
    · rfl
    · rw [Int.toNat_natCast]
      exact congrArg PyData.tuple (rep_fD c)
/-- rows, a list of lists -/
def llD (L : List (List Rat)) : PyData := .list ((L.map (List.map fD)).map PyData.list)
def gLoadOf (ds : List PyData) (z : PyData) : Prop := ∃ L : List (List Rat), L.length ≤ 1000 ∧ ds = [llD L] ∧ z = lD L
theorem sc_loadOf : FnScope ["rows", "row"] ["rows"] (defScope (top 45)) := ⟨rfl, rfl, rfl, by decide +kernel, rfl, by decide +kernel, by decide +kernel⟩
theorem ok_loadOf {f : Addr} {fd : FuncData} (F : Fun K "_load_of" "_load_of" (top 45) f fd) (T : Tx mg) : FnOk P w K mg base CX0 1 f fd ["rows"] (spD K gLoadOf) := by
  refine okD F sc_loadOf (fun ds z ⟨_, _, e, _⟩ => by rw [e]; rfl) fun cdv A outer s H E hr ds z ⟨L, hl, e1, e2⟩ => ?_
  subst e1 e2
  refine ⟨_, sv_ret (st_ret (Ev.to (ev_callTy call_tuple_of (ea_cons (EvL.ev (el_lc (S := fun _ => [.d (llD L), .x]) (ys := L.map rowD) (own := [("row", 1)]) (ei_list (ev_var (i := 0) rfl rfl)) (blkOk_by (N := ["rows", "row"]) (sc := defScope (top 45)) (by decide +kernel)) rfl ?_ ?_ ?_ sc_loadOf.nd)) ea_nil) rc_tupL T.tuple) rfl))⟩
  · simp
  · simp; omega
  · intro i d y hd hy
    obtain ⟨r, hr', rfl⟩ := map_get hy
    have ed : d = .list (r.map fD) := by
      rw [List.getElem?_map, List.getElem?_map, hr'] at hd; exact (Option.some.inj hd).symm
    subst ed
    exact ⟨_, [1], _, fun j hj => hj, rfl, fun s' H' C cl fp => ⟨tg_name (i := 1) rfl (by simp) sc_loadOf.nd, ev_callTy call_tuple_of (ea_cons (ev_var (i := 1) rfl rfl) ea_nil) rc_tupL T.tuple⟩⟩
def oneL (cs : List Nat) (s : Spot) : List (List Rat) := setAt (zeroL cs) s 1
theorem set_map {L : List (List Rat)} {s : Spot} {q : Rat} {r : List Rat} (h : L[s.1]? = some r) : (L.map (List.map fD)).set s.1 ((r.map fD).set s.2 (fD q)) = (setAt L s q).map (List.map fD) := by
  unfold setAt
  rw [List.map_set, List.map_set, List.getD_eq_getElem?_getD, h]; rfl
def gOneAt (ds : List PyData) (z : PyData) : Prop := ∃ (M : Mach) (s : Spot), MOk M ∧ SpOk M.cs s ∧ ds = [mD M, sD s] ∧ z = lD (oneL M.cs s)
theorem sc_oneAt : FnScope ["machine", "spot", "rows", "count"] ["machine", "spot"] (defScope (top 36)) := ⟨rfl, rfl, rfl, by decide +kernel, rfl, by decide +kernel, by decide +kernel⟩
theorem ok_oneAt {f : Addr} {fd : FuncData} (F : Fun K "one_at" "one_at" (top 36) f fd) (T : Tx mg) (f1 : Fn P w K mg base "need_spot" 6 (spD K gNeedSpot)) (f2 : Fn P w K mg base "_load_of" 1 (spD K gLoadOf)) : FnOk P w K mg base CX0 7 f fd ["machine", "spot"] (spD K gOneAt) := by
  refine okD F sc_oneAt (fun ds z ⟨_, _, _, _, e, _⟩ => by rw [e]; rfl) fun cdv A outer s H E hr ds z ⟨M, sp, hM, hs, e1, e2⟩ => ?_
  subst e1 e2
  have hz := zero_ok (cs := M.cs)
  obtain ⟨r, hr', hp, _⟩ := hz.spot hs
  have hx : ((zeroL M.cs).map (List.map fD))[sp.1]? = some (r.map fD) := by rw [List.getElem?_map, hr']; rfl
  refine ⟨_, sv_nx (st_drop (ev_call f1 hr (ea_cons (ev_var (i := 0) rfl rfl) (ea_cons (ev_var (i := 1) rfl rfl) ea_nil)) ⟨M, sp, hM, hs, rfl, rfl⟩))
    (sv_nx (st_lcLL (S := fun _ => [.d (mD M), .d (sD sp), .x, .x]) (yss := (zeroL M.cs).map (List.map fD)) (own := [("count", 3)]) (j := 2) (ei_tup (ev_ix ix_tup (ev_var (i := 0) rfl rfl) ev_int (rd_ixT (d := cD M.cs) rfl))) (blkOk_by (N := ["machine", "spot", "rows", "count"]) (sc := defScope (top 36)) (by decide +kernel)) rfl ?_ ?_ ?_ sc_oneAt.nd rfl (by simp))
    (sv_nx (st_setLL (i := 2) (w := sp.1) (n := sp.2) (d := fD 1) rfl (ev_tup (ea_cons ev_int (ea_cons ev_int ea_nil))) rfl (eq_ixT (eq_var (i := 1) rfl rfl) eq_int rfl) (eq_ixT (eq_var (i := 1) rfl rfl) eq_int rfl) hx (by simpa using hp))
    (sv_frzLL (i := 2) rfl (sv_ret (st_ret (ev_call f2 (hr.mono (by decide)) (ea_cons (ev_var (i := 2) rfl rfl) ea_nil) ⟨oneL M.cs sp, ?_, ?_, rfl⟩))))))⟩
  · simp [zs_len, zeroL]
  · have := hM.len2
    simp [zs_len]
    omega
  · intro i d y hd hy
    obtain ⟨z, hz, rfl⟩ := map_get hd
    obtain ⟨c, hc, rfl⟩ := zs_get hz
    have hle := le_sum (List.mem_of_getElem? hc)
    have hs := hM.sum
    have ey : y = (List.replicate c (0 : Rat)).map fD := by
      have : ((zeroL M.cs).map (List.map fD))[i]? = some ((List.replicate c (0 : Rat)).map fD) := by simp [zeroL, hc]
      rw [this] at hy; exact (Option.some.inj hy).symm
    subst ey
    refine ⟨_, [3], _, fun j hj => hj, ?_, fun s' H' C cl fp => ⟨tg_name (i := 3) rfl (by simp) sc_oneAt.nd, EvL.to (el_rep (el_lst (ea_cons (ev_tup (ea_cons ev_int (ea_cons ev_int ea_nil))) ea_nil)) (ev_var (i := 3) rfl rfl) (by omega) (by simp; omega)) ?_⟩⟩
    · rfl
    · rw [Int.toNat_natCast]
      exact rep_fD c
  · have := hM.len2
    have := (setAt_len (s := sp) (q := 1) hz).len
    unfold oneL
    omega
  · unfold llD oneL
    rw [← set_map hr']
/-! added, scaled, held, squares -/
def gAdded (ds : List PyData) (z : PyData) : Prop := ∃ (M : Mach) (L L' : List (List Rat)), MOk M ∧ LOk M.cs L ∧ LOk M.cs L' ∧ SzL 3000 L ∧ SzL 3000 L' ∧ ds = [mD M, lD L, lD L'] ∧ z = lD (addL L L')
theorem sc_added : FnScope ["machine", "load", "other", "row", "beside", "worth", "more"] ["machine", "load", "other"] (defScope (top 37)) := ⟨rfl, rfl, rfl, by decide +kernel, rfl, by decide +kernel, by decide +kernel⟩
theorem zip_item {xs ys : List PyData} {i : Nat} {d : PyData} (h : (zipD xs ys)[i]? = some d) : ∃ x y, xs[i]? = some x ∧ ys[i]? = some y ∧ d = .tuple [x, y] := by
  unfold zipD at h
  rw [List.getElem?_zipWith] at h
  cases hx : xs[i]? with
  | none => rw [hx] at h; cases h
  | some x =>
    cases hy : ys[i]? with
    | none => rw [hx, hy] at h; cases h
    | some y => rw [hx, hy] at h; exact ⟨x, y, rfl, rfl, (Option.some.inj h).symm⟩
theorem LOk.rows {cs : List Nat} {L L' : List (List Rat)} {i : Nat} {r r' : List Rat} (h : LOk cs L) (h' : LOk cs L') (e : L[i]? = some r) (e' : L'[i]? = some r') : r.length = r'.length := by
  have e1 : (L.map List.length)[i]? = cs[i]? := by rw [h]
  have e2 : (L'.map List.length)[i]? = cs[i]? := by rw [h']
  rw [List.getElem?_map, e] at e1
  rw [List.getElem?_map, e', ← e1] at e2
  exact (Option.some.inj e2).symm
theorem LOk.row30 {M : Mach} {L : List (List Rat)} {i : Nat} {r : List Rat} (hM : MOk M) (h : LOk M.cs L) (e : L[i]? = some r) : r.length ≤ 30 := by
  have e1 : (L.map List.length)[i]? = M.cs[i]? := by rw [h]
  rw [List.getElem?_map, e] at e1
  have := le_sum (List.mem_of_getElem? e1.symm)
  have := hM.sum
  omega
theorem ok_added {f : Addr} {fd : FuncData} (F : Fun K "added" "added" (top 37) f fd) (T : Tx mg) (f1 : Fn P w K mg base "need_load" 6 (spD K gNeedLoad)) (f2 : Fn P w K mg base "plus" 2 (spD K gPlus)) : FnOk P w K mg base CX0 7 f fd ["machine", "load", "other"] (spD K gAdded) := by
  refine okD F sc_added (fun ds z ⟨_, _, _, _, _, _, _, _, e, _⟩ => by rw [e]; rfl) fun cdv A outer s H E hr ds z ⟨M, L, L', hM, hL, hL', hz, hz', e1, e2⟩ => ?_
  subst e1 e2
  refine ⟨_, sv_nx (st_drop (ev_call f1 hr (ea_cons (ev_var (i := 0) rfl rfl) (ea_cons (ev_var (i := 1) rfl rfl) ea_nil)) ⟨M, L, hM, hL, rfl, rfl⟩))
    (sv_nx (st_drop (ev_call f1 hr (ea_cons (ev_var (i := 0) rfl rfl) (ea_cons (ev_var (i := 2) rfl rfl) ea_nil)) ⟨M, L', hM, hL', rfl, rfl⟩))
    (sv_ret (st_ret (Ev.to (ev_callTy call_tuple_of (ea_cons (EvL.ev (el_lc (S := fun _ => [.d (mD M), .d (lD L), .d (lD L'), .x, .x, .x, .x]) (ys := (addL L L').map rowD) (own := [("row", 3), ("beside", 4)])
      (ei_zipT (ds := L.map rowD) (es := L'.map rowD) (ea_cons (ev_var (i := 1) rfl rfl) (ea_cons (ev_var (i := 2) rfl rfl) ea_nil)) ?_ T.zip) (blkOk_by (N := ["machine", "load", "other", "row", "beside", "worth", "more"]) (sc := defScope (top 37)) (by decide +kernel)) rfl ?_ ?_ ?_ sc_added.nd)) ea_nil) rc_tupL T.tuple) rfl))))⟩
  · simp [hL.len, hL'.len]
  · simp [zipD_len, addL]
  · have := hM.len2
    have := hL.len
    simp [zipD_len]
    omega
  · intro i d y hd hy
    obtain ⟨x1, x2, g1, g2, rfl⟩ := zip_item hd
    obtain ⟨r, h1, rfl⟩ := map_get g1
    obtain ⟨r', h2, rfl⟩ := map_get g2
    have hlen := hL.rows hL' h1 h2
    have h30 := hL.row30 hM h1
    have ey : y = rowD (List.zipWith (· + ·) r r') := by
      have : ((addL L L').map rowD)[i]? = some (rowD (List.zipWith (· + ·) r r')) := by simp [addL, List.getElem?_zipWith, h1, h2]
      rw [this] at hy; exact (Option.some.inj hy).symm
    subst ey
    refine ⟨_, [3, 4], _, fun j hj => hj, ?_, fun s' H' C cl fp => ⟨tg_tup (tgs_cons (tg_name (i := 3) rfl (by simp) sc_added.nd) (tgs_cons (tg_name (i := 4) rfl (by simp) sc_added.nd) tgs_nil)),
      Ev.to (ev_callTy call_tuple_of (ea_cons (EvL.ev (el_lc (S := fun _ => [.d (mD M), .d (lD L), .d (lD L'), .d (rowD r), .d (rowD r'), .x, .x]) (ys := (List.zipWith (· + ·) r r').map fD) (own := [("worth", 5), ("more", 6)])
        (ei_zipT (ds := r.map fD) (es := r'.map fD) (ea_cons (ev_var (i := 3) rfl rfl) (ea_cons (ev_var (i := 4) rfl rfl) ea_nil)) ?_ T.zip) (blkOk_by (N := ["machine", "load", "other", "row", "beside", "worth", "more"]) (by kernel_rfl)) rfl ?_ ?_ ?_ sc_added.nd)) ea_nil) rc_tupL T.tuple) rfl⟩⟩
    · rfl
    · simp [hlen]
    · simp [zipD_len]
    · simp [zipD_len]; omega
    · intro j d y hd hy
      obtain ⟨x1, x2, g1, g2, rfl⟩ := zip_item hd
      obtain ⟨p, q1, rfl⟩ := map_get g1
      obtain ⟨q, q2, rfl⟩ := map_get g2
      have ey : y = fD (p + q) := by
        have : ((List.zipWith (· + ·) r r').map fD)[j]? = some (fD (p + q)) := by simp [List.getElem?_zipWith, q1, q2]
        rw [this] at hy; exact (Option.some.inj hy).symm
      subst ey
      exact ⟨_, [5, 6], _, fun j hj => hj, rfl, fun s' H' C cl fp => ⟨tg_tup (tgs_cons (tg_name (i := 5) rfl (by simp) sc_added.nd) (tgs_cons (tg_name (i := 6) rfl (by simp) sc_added.nd) tgs_nil)),
        ev_call f2 (hr.mono (by decide)) (ea_cons (ev_var (i := 5) rfl rfl) (ea_cons (ev_var (i := 6) rfl rfl) ea_nil)) ⟨p, q, hz r (List.mem_of_getElem? h1) p (List.mem_of_getElem? q1), hz' r' (List.mem_of_getElem? h2) q (List.mem_of_getElem? q2), rfl, rfl⟩⟩⟩
end
end Ewl

set_option maxRecDepth 100000
set_option maxHeartbeats 4000000
set_option exponentiation.threshold 10000
namespace Ewl
open PySem L2
section
variable {P : Program} {w : World} {K : PySem.W.Frag} {mg : Str → Option Value} {base : Heap}
def gScaled (ds : List PyData) (z : PyData) : Prop := ∃ (M : Mach) (L : List (List Rat)) (c : Rat), MOk M ∧ LOk M.cs L ∧ SzL 3000 L ∧ Sz 3000 c ∧ ds = [mD M, lD L, fD c] ∧ z = lD (scaleL L c)
theorem sc_scaled : FnScope ["machine", "load", "by", "row", "worth"] ["machine", "load", "by"] (defScope (top 38)) := ⟨rfl, rfl, rfl, by decide +kernel, rfl, by decide +kernel, by decide +kernel⟩
theorem ok_scaled {f : Addr} {fd : FuncData} (F : Fun K "scaled" "scaled" (top 38) f fd) (T : Tx mg) (f1 : Fn P w K mg base "need_load" 6 (spD K gNeedLoad)) (f2 : Fn P w K mg base "need_fraction" 3 (spD K gNeedFrac)) (f3 : Fn P w K mg base "times" 2 (spD K gTimes)) : FnOk P w K mg base CX0 7 f fd ["machine", "load", "by"] (spD K gScaled) := by
  refine okD F sc_scaled (fun ds z ⟨_, _, _, _, _, _, _, e, _⟩ => by rw [e]; rfl) fun cdv A outer s H E hr ds z ⟨M, L, c, hM, hL, hz, hc, e1, e2⟩ => ?_
  subst e1 e2
  refine ⟨_, sv_nx (st_drop (ev_call f1 hr (ea_cons (ev_var (i := 0) rfl rfl) (ea_cons (ev_var (i := 1) rfl rfl) ea_nil)) ⟨M, L, hM, hL, rfl, rfl⟩))
    (sv_nx (st_drop (ev_call f2 (hr.mono (by decide)) (ea_cons (ev_var (i := 2) rfl rfl) ea_nil) ⟨c, rfl, rfl⟩))
    (sv_ret (st_ret (Ev.to (ev_callTy call_tuple_of (ea_cons (EvL.ev (el_lc (S := fun _ => [.d (mD M), .d (lD L), .d (fD c), .x, .x]) (ys := (scaleL L c).map rowD) (own := [("row", 3)])
      (ei_tup (ds := L.map rowD) (ev_var (i := 1) rfl rfl)) (blkOk_by (N := ["machine", "load", "by", "row", "worth"]) (sc := defScope (top 38)) (by decide +kernel)) rfl ?_ ?_ ?_ sc_scaled.nd)) ea_nil) rc_tupL T.tuple) rfl))))⟩
  · simp [scaleL]
  · have := hM.len2
    have := hL.len
    simp
    omega
  · intro i d y hd hy
    obtain ⟨r, h1, rfl⟩ := map_get hd
    have h30 := hL.row30 hM h1
    have ey : y = rowD (r.map (· * c)) := by
      have : ((scaleL L c).map rowD)[i]? = some (rowD (r.map (· * c))) := by simp [scaleL, h1]
      rw [this] at hy; exact (Option.some.inj hy).symm
    subst ey
    refine ⟨_, [3], _, fun j hj => hj, ?_, fun s' H' C cl fp => ⟨tg_name (i := 3) rfl (by simp) sc_scaled.nd,
      Ev.to (ev_callTy call_tuple_of (ea_cons (EvL.ev (el_lc (S := fun _ => [.d (mD M), .d (lD L), .d (fD c), .d (rowD r), .x]) (ys := (r.map (· * c)).map fD) (own := [("worth", 4)])
        (ei_tup (ds := r.map fD) (ev_var (i := 3) rfl rfl)) (blkOk_by (N := ["machine", "load", "by", "row", "worth"]) (by kernel_rfl)) rfl ?_ ?_ ?_ sc_scaled.nd)) ea_nil) rc_tupL T.tuple) rfl⟩⟩
    · rfl
    · simp
    · simp; omega
    · intro j d y hd hy
      obtain ⟨p, q1, rfl⟩ := map_get hd
      have ey : y = fD (p * c) := by
        have : ((r.map (· * c)).map fD)[j]? = some (fD (p * c)) := by simp [q1]
        rw [this] at hy; exact (Option.some.inj hy).symm
      subst ey
      exact ⟨_, [4], _, fun j hj => hj, rfl, fun s' H' C cl fp => ⟨tg_name (i := 4) rfl (by simp) sc_scaled.nd,
        ev_call f3 (hr.mono (by decide)) (ea_cons (ev_var (i := 4) rfl rfl) (ea_cons (ev_var (i := 2) rfl rfl) ea_nil)) ⟨p, c, hz r (List.mem_of_getElem? h1) p (List.mem_of_getElem? q1), hc, rfl, rfl⟩⟩⟩
def heldL (L : List (List Rat)) : Rat := L.flatten.sum
def squaresL (L : List (List Rat)) : Rat := (L.flatten.map fun q => q * q).sum
theorem mem_flat {L : List (List Rat)} {q : Rat} (h : q ∈ L.flatten) : ∃ r ∈ L, q ∈ r := by simpa using h
def gHeld (ds : List PyData) (z : PyData) : Prop := ∃ (M : Mach) (L : List (List Rat)), MOk M ∧ LOk M.cs L ∧ SzL 90 L ∧ ds = [mD M, lD L] ∧ z = fD (heldL L)
theorem sc_held : FnScope ["machine", "load", "row", "worth"] ["machine", "load"] (defScope (top 39)) := ⟨rfl, rfl, rfl, by decide +kernel, rfl, by decide +kernel, by decide +kernel⟩
theorem ok_held {f : Addr} {fd : FuncData} (F : Fun K "held" "held" (top 39) f fd) (T : Tx mg) (f1 : Fn P w K mg base "need_load" 6 (spD K gNeedLoad)) (f2 : Fn P w K mg base "total" 3 (spD K gTotal)) : FnOk P w K mg base CX0 7 f fd ["machine", "load"] (spD K gHeld) := by
  refine okD F sc_held (fun ds z ⟨_, _, _, _, _, e, _⟩ => by rw [e]; rfl) fun cdv A outer s H E hr ds z ⟨M, L, hM, hL, hz, e1, e2⟩ => ?_
  subst e1 e2
  have hfl := flat_len hL
  have hsum := hM.sum
  refine ⟨_, sv_nx (st_drop (ev_call f1 hr (ea_cons (ev_var (i := 0) rfl rfl) (ea_cons (ev_var (i := 1) rfl rfl) ea_nil)) ⟨M, L, hM, hL, rfl, rfl⟩))
    (sv_ret (st_ret (ev_call f2 (hr.mono (by decide)) (ea_cons (EvL.ev (el_lc2 (yss := L.map (List.map fD)) (vs1 := [3]) (own := [("row", 2), ("worth", 3)]) (ei_tup (ds := L.map rowD) (ev_var (i := 1) rfl rfl)) (blkOk_by (N := ["machine", "load", "row", "worth"]) (sc := defScope (top 39)) (by decide +kernel)) (by decide) ?_ ?_ ?_ sc_held.nd)) ea_nil)
      ⟨L.flatten, by omega, fun q hq => ?_, ?_, rfl⟩)))⟩
  · simp
  · rw [← List.map_flatten, List.length_map]; omega
  · intro i d ys hd hy
    obtain ⟨r, h1, rfl⟩ := map_get hd
    have ey : ys = r.map fD := by
      have : (L.map (List.map fD))[i]? = some (r.map fD) := by simp [h1]
      rw [this] at hy; exact (Option.some.inj hy).symm
    subst ey
    refine ⟨_, _, _, r.map fD, fun j => [.d (mD M), .d (lD L), .d (rowD r), .d (fD (r.getD j 0))], [3], ?_, fun j hj => hj, ?_, ?_, rfl, fun s' H' C cl fp => ⟨tg_name (i := 2) rfl (by simp [wipeS]) sc_held.nd, ei_tup (ev_var (i := 2) rfl rfl), fun j d1 y h1 h2 => ?_⟩⟩
    · simp
    · rfl
    · intro j; rfl
    · obtain ⟨q, hq, rfl⟩ := map_get h1
      have ey : y = fD q := by rw [h1] at h2; exact (Option.some.inj h2).symm
      subst ey
      have eq : r.getD j 0 = q := by simp [hq]
      simp only [eq]
      exact ⟨tg_name (i := 3) rfl (by simp [wipeS]) sc_held.nd, ev_var (i := 3) rfl rfl⟩
  · obtain ⟨r, hr', hq'⟩ := mem_flat hq
    exact hz r hr' q hq'
  · rw [← List.map_flatten]
def gSquares (ds : List PyData) (z : PyData) : Prop := ∃ (M : Mach) (L : List (List Rat)), MOk M ∧ LOk M.cs L ∧ SzL 45 L ∧ ds = [mD M, lD L] ∧ z = fD (squaresL L)
theorem sc_squares : FnScope ["machine", "load", "row", "worth"] ["machine", "load"] (defScope (top 40)) := ⟨rfl, rfl, rfl, by decide +kernel, rfl, by decide +kernel, by decide +kernel⟩
theorem ok_squares {f : Addr} {fd : FuncData} (F : Fun K "squares" "squares" (top 40) f fd) (T : Tx mg) (f1 : Fn P w K mg base "need_load" 6 (spD K gNeedLoad)) (f2 : Fn P w K mg base "total" 3 (spD K gTotal)) (f3 : Fn P w K mg base "times" 2 (spD K gTimes)) : FnOk P w K mg base CX0 7 f fd ["machine", "load"] (spD K gSquares) := by
  refine okD F sc_squares (fun ds z ⟨_, _, _, _, _, e, _⟩ => by rw [e]; rfl) fun cdv A outer s H E hr ds z ⟨M, L, hM, hL, hz, e1, e2⟩ => ?_
  subst e1 e2
  have hfl := flat_len hL
  have hsum := hM.sum
  refine ⟨_, sv_nx (st_drop (ev_call f1 hr (ea_cons (ev_var (i := 0) rfl rfl) (ea_cons (ev_var (i := 1) rfl rfl) ea_nil)) ⟨M, L, hM, hL, rfl, rfl⟩))
    (sv_ret (st_ret (ev_call f2 (hr.mono (by decide)) (ea_cons (EvL.ev (el_lc2 (yss := L.map (List.map fun q => fD (q * q))) (vs1 := [3]) (own := [("row", 2), ("worth", 3)]) (ei_tup (ds := L.map rowD) (ev_var (i := 1) rfl rfl)) (blkOk_by (N := ["machine", "load", "row", "worth"]) (sc := defScope (top 40)) (by decide +kernel)) (by decide) ?_ ?_ ?_ sc_squares.nd)) ea_nil)
      ⟨L.flatten.map fun q => q * q, by simp only [List.length_map]; omega, fun q hq => ?_, ?_, rfl⟩)))⟩
  · simp
  · rw [← List.map_flatten, List.length_map]; omega
  · intro i d ys hd hy
    obtain ⟨r, h1, rfl⟩ := map_get hd
    have hr1 := List.mem_of_getElem? h1
    have ey : ys = r.map fun q => fD (q * q) := by
      have : (L.map (List.map fun q => fD (q * q)))[i]? = some (r.map fun q => fD (q * q)) := by simp [h1]
      rw [this] at hy; exact (Option.some.inj hy).symm
    subst ey
    refine ⟨_, _, _, r.map fD, fun j => [.d (mD M), .d (lD L), .d (rowD r), .d (fD (r.getD j 0))], [3], ?_, fun j hj => hj, ?_, ?_, by simp, fun s' H' C cl fp => ⟨tg_name (i := 2) rfl (by simp [wipeS]) sc_squares.nd, ei_tup (ev_var (i := 2) rfl rfl), fun j d1 y h1 h2 => ?_⟩⟩
    · simp
    · rfl
    · intro j; rfl
    · obtain ⟨q, hq, rfl⟩ := map_get h1
      have ey : y = fD (q * q) := by
        have : (r.map fun q => fD (q * q))[j]? = some (fD (q * q)) := by simp [hq]
        rw [this] at h2; exact (Option.some.inj h2).symm
      subst ey
      have eq : r.getD j 0 = q := by simp [hq]
      simp only [eq]
      have hzq := (hz r hr1 q (List.mem_of_getElem? hq)).mono (show 45 ≤ 3000 by decide)
      exact ⟨tg_name (i := 3) rfl (by simp [wipeS]) sc_squares.nd, ev_call f3 (hr.mono (by decide)) (ea_cons (ev_var (i := 3) rfl rfl) (ea_cons (ev_var (i := 3) rfl rfl) ea_nil)) ⟨q, q, hzq, hzq, rfl, rfl⟩⟩
  · obtain ⟨p, hp, rfl⟩ := List.mem_map.mp hq
    obtain ⟨r, hr', hq'⟩ := mem_flat hp
    exact sz_times (hz r hr' p hq') (hz r hr' p hq')
  · rw [← List.map_flatten, List.map_map]; rfl
end
end Ewl

set_option maxRecDepth 100000
set_option maxHeartbeats 4000000
set_option exponentiation.threshold 10000
namespace Ewl
open PySem L2
section
variable {P : Program} {w : World} {K : PySem.W.Frag} {mg : Str → Option Value} {base : Heap}
theorem LOk.at {M : Mach} {L : List (List Rat)} {s : Spot} (hL : LOk M.cs L) (hs : SpOk M.cs s) : ∃ r, atI (L.map rowD) (s.1 : Nat) = some (.tuple (r.map fD)) ∧ atI (r.map fD) (s.2 : Nat) = some (fD (atL L s)) ∧ r ∈ L ∧ atL L s ∈ r := by
  obtain ⟨r, h1, h2, h3⟩ := hL.spot hs
  exact ⟨r, at_nat (by rw [List.getElem?_map, h1]; rfl), at_nat (by rw [List.getElem?_map, h3]; rfl), List.mem_of_getElem? h1, List.mem_of_getElem? h3⟩
def gRead_ (ds : List PyData) (z : PyData) : Prop := ∃ (M : Mach) (L : List (List Rat)), MOk M ∧ LOk M.cs L ∧ SzL 1700 L ∧ ds = [mD M, lD L] ∧ z = rowD (readL M L)
theorem sc_read_ : FnScope ["machine", "load", "wheel", "place", "across", "beside"] ["machine", "load"] (defScope (top 46)) := ⟨rfl, rfl, rfl, by decide +kernel, rfl, by decide +kernel, by decide +kernel⟩
theorem ok_read_ {f : Addr} {fd : FuncData} (F : Fun K "_read" "_read" (top 46) f fd) (T : Tx mg) (f1 : Fn P w K mg base "plus" 2 (spD K gPlus)) (f2 : Fn P w K mg base "half" 2 (spD K gHalf)) : FnOk P w K mg base CX0 3 f fd ["machine", "load"] (spD K gRead_) := by
  refine okD F sc_read_ (fun ds z ⟨_, _, _, _, _, e, _⟩ => by rw [e]; rfl) fun cdv A outer s H E hr ds z ⟨M, L, hM, hL, hz, e1, e2⟩ => ?_
  subst e1 e2
  refine ⟨_, sv_ret (st_ret (Ev.to (ev_callTy call_tuple_of (ea_cons (EvL.ev (el_lc (S := fun _ => [.d (mD M), .d (lD L), .x, .x, .x, .x]) (ys := (readL M L).map fD) (own := [("wheel", 2), ("place", 3), ("across", 4), ("beside", 5)])
      (ei_tup (ds := M.ts.map pD) (ev_ix ix_tup (ev_var (i := 0) rfl rfl) ev_int (rd_ixT (d := tD M.ts) rfl))) (blkOk_by (N := ["machine", "load", "wheel", "place", "across", "beside"]) (sc := defScope (top 46)) (by decide +kernel)) rfl ?_ ?_ ?_ sc_read_.nd)) ea_nil) rc_tupL T.tuple) rfl))⟩
  · simp [readL]
  · have := hM.tl
    simp
    omega
  · intro i d y hd hy
    obtain ⟨p, h1, rfl⟩ := map_get hd
    obtain ⟨s1, s2, _⟩ := hM.sp p (List.mem_of_getElem? h1)
    obtain ⟨r1, a1, b1, m1, n1⟩ := hL.at s1
    obtain ⟨r2, a2, b2, m2, n2⟩ := hL.at s2
    have z1 := hz _ m1 _ n1
    have z2 := hz _ m2 _ n2
    have ey : y = fD ((atL L p.1 + atL L p.2) / 2) := by
      have : ((readL M L).map fD)[i]? = some (fD ((atL L p.1 + atL L p.2) / 2)) := by simp [readL, h1]
      rw [this] at hy; exact (Option.some.inj hy).symm
    subst ey
    refine ⟨_, [2, 3, 4, 5], _, fun j hj => hj, ?_, fun s' H' C cl fp => ⟨tg_tup (tgs_cons (tg_tup (tgs_cons (tg_name (i := 2) rfl (by simp) sc_read_.nd) (tgs_cons (tg_name (i := 3) rfl (by simp) sc_read_.nd) tgs_nil))) (tgs_cons (tg_tup (tgs_cons (tg_name (i := 4) rfl (by simp) sc_read_.nd) (tgs_cons (tg_name (i := 5) rfl (by simp) sc_read_.nd) tgs_nil))) tgs_nil)),
      ev_call f2 hr (ea_cons (ev_call f1 hr (ea_cons (ev_ix ix_tup (ev_ix ix_tup (ev_var (i := 1) rfl rfl) (ev_var (i := 2) rfl rfl) (rd_ixT a1)) (ev_var (i := 3) rfl rfl) (rd_ixT b1)) (ea_cons (ev_ix ix_tup (ev_ix ix_tup (ev_var (i := 1) rfl rfl) (ev_var (i := 4) rfl rfl) (rd_ixT a2)) (ev_var (i := 5) rfl rfl) (rd_ixT b2)) ea_nil)) ⟨_, _, z1.mono (by decide), z2.mono (by decide), rfl, rfl⟩) ea_nil) ⟨_, (sz_plus z1 z2).mono (by decide), rfl, rfl⟩⟩⟩
    rfl
def gRead (ds : List PyData) (z : PyData) : Prop := gRead_ ds z
theorem sc_read : FnScope ["machine", "load"] ["machine", "load"] (defScope (top 41)) := ⟨rfl, rfl, rfl, by decide +kernel, rfl, by decide +kernel, by decide +kernel⟩
theorem ok_read {f : Addr} {fd : FuncData} (F : Fun K "read" "read" (top 41) f fd) (T : Tx mg) (f1 : Fn P w K mg base "need_load" 6 (spD K gNeedLoad)) (f2 : Fn P w K mg base "_read" 3 (spD K gRead_)) : FnOk P w K mg base CX0 7 f fd ["machine", "load"] (spD K gRead_) := by
  refine okD F sc_read (fun ds z ⟨_, _, _, _, _, e, _⟩ => by rw [e]; rfl) fun cdv A outer s H E hr ds z ⟨M, L, hM, hL, hz, e1, e2⟩ => ?_
  subst e1 e2
  exact ⟨_, sv_nx (st_drop (ev_call f1 hr (ea_cons (ev_var (i := 0) rfl rfl) (ea_cons (ev_var (i := 1) rfl rfl) ea_nil)) ⟨M, L, hM, hL, rfl, rfl⟩))
    (sv_ret (st_ret (ev_call f2 (hr.mono (by decide)) (ea_cons (ev_var (i := 0) rfl rfl) (ea_cons (ev_var (i := 1) rfl rfl) ea_nil)) ⟨M, L, hM, hL, hz, rfl, rfl⟩)))⟩
end
end Ewl

set_option maxRecDepth 100000
set_option maxHeartbeats 4000000
set_option exponentiation.threshold 10000
namespace Ewl
open PySem L2
theorem St1.to {X : Cx} {st : Stmt} {s0 s1 s2 : List Sl} (h : St1 X st s0 (.nx s1)) (e : s1 = s2) : St1 X st s0 (.nx s2) := e ▸ h
theorem slice_drop (xs : List PyData) : sliceD xs (some 1) none = xs.drop 1 := by
  unfold sliceD HT.sIx
  cases xs with
  | nil => rfl
  | cons a xs => simp
theorem slice_take (xs : List PyData) : sliceD xs none (some 1) = xs.take 1 := by
  unfold sliceD HT.sIx
  cases xs with
  | nil => rfl
  | cons a xs => simp
theorem share_step {ts : List (Spot × Spot)} {rs : List Rat} {L : List (List Rat)} {i : Nat} {p : Spot × Spot} {r : Rat} (h1 : ts[i]? = some p) (h2 : rs[i]? = some r) :
    shareL (ts.take (i + 1)) rs L = setAt (setAt (shareL (ts.take i) rs L) p.1 r) p.2 r := by
  unfold shareL
  have e : ∀ k, (ts.take k).zip rs = (ts.zip rs).take k := fun k => by
    rw [List.zip_eq_zipWith, List.zip_eq_zipWith, List.take_zipWith]
    apply List.ext_getElem?
    intro n
    rw [List.getElem?_zipWith, List.getElem?_zipWith]
    by_cases hn : n < k
    · rw [List.getElem?_take_of_lt hn, List.getElem?_take_of_lt hn]
    · rw [List.getElem?_take_eq_none (by omega)]
  rw [e, e, take_more (x := (p, r)) (by rw [List.getElem?_zip_eq_some]; exact ⟨h1, h2⟩), List.foldl_append]
  rfl
section
variable {P : Program} {w : World} {K : PySem.W.Frag} {mg : Str → Option Value} {base : Heap}
def gBeat_ (ds : List PyData) (z : PyData) : Prop := ∃ (M : Mach) (L : List (List Rat)), MOk M ∧ LOk M.cs L ∧ SzL 1700 L ∧ ds = [mD M, lD L] ∧ z = lD (beatL M L)
theorem sc_beat_ : FnScope ["machine", "load", "rows", "pair", "reading", "wheel", "place", "row"] ["machine", "load"] (defScope (top 47)) := ⟨rfl, rfl, rfl, by decide +kernel, rfl, by decide +kernel, by decide +kernel⟩
theorem ok_beat_ {f : Addr} {fd : FuncData} (F : Fun K "_beat" "_beat" (top 47) f fd) (T : Tx mg) (f1 : Fn P w K mg base "_read" 3 (spD K gRead_)) (f2 : Fn P w K mg base "_load_of" 1 (spD K gLoadOf)) : FnOk P w K mg base CX0 4 f fd ["machine", "load"] (spD K gBeat_) := by
  refine okD F sc_beat_ (fun ds z ⟨_, _, _, _, _, e, _⟩ => by rw [e]; rfl) fun cdv A outer s H E hr ds z ⟨M, L, hM, hL, hz, e1, e2⟩ => ?_
  subst e1 e2
  refine ⟨_, sv_nx (st_lcLL (S := fun _ => [.d (mD M), .d (lD L), .x, .x, .x, .x, .x, .x]) (yss := L.map (List.map fD)) (own := [("row", 7)]) (j := 2) (ei_tup (ds := L.map rowD) (ev_var (i := 1) rfl rfl)) (blkOk_by (N := ["machine", "load", "rows", "pair", "reading", "wheel", "place", "row"]) (sc := defScope (top 47)) (by decide +kernel)) rfl ?_ ?_ ?_ sc_beat_.nd rfl (by simp))
    (sv_nx (St1.to (s2 := [.d (mD M), .d (lD L), .ll ((shareL M.ts (readL M L) L).map (List.map fD)), .x, .x, .x, .x, .x]) (st_for (S := fun i => [.d (mD M), .d (lD L), .ll ((shareL (M.ts.take i) (readL M L) L).map (List.map fD)), .x, .x, .x, .x, .x]) (items := zipD (M.ts.map pD) ((readL M L).map fD))
      (ei_zipT (ds := M.ts.map pD) (es := (readL M L).map fD) (ea_cons (ev_ix ix_tup (ev_var (i := 0) rfl rfl) ev_int (rd_ixT (d := tD M.ts) rfl)) (ea_cons (ev_call f1 hr (ea_cons (ev_var (i := 0) rfl rfl) (ea_cons (ev_var (i := 1) rfl rfl) ea_nil)) ⟨M, L, hM, hL, hz, rfl, rfl⟩) ea_nil)) ?_ T.zip) ?_) ?_)
    (sv_frzLL (i := 2) rfl (sv_ret (st_ret (ev_call f2 (hr.mono (by decide)) (ea_cons (EvL.ev (el_lc (S := fun _ => [.d (mD M), .d (lD L), .d (llD (shareL M.ts (readL M L) L)), .x, .x, .x, .x, .x]) (ys := ((beatL M L).map (List.map fD)).map .list) (own := [("row", 7)])
      (ei_list (ds := ((shareL M.ts (readL M L) L).map (List.map fD)).map .list) (ev_var (i := 2) rfl rfl)) (blkOk_by (N := ["machine", "load", "rows", "pair", "reading", "wheel", "place", "row"]) (sc := defScope (top 47)) (by decide +kernel)) rfl ?_ ?_ ?_ sc_beat_.nd)) ea_nil) ⟨beatL M L, ?_, rfl, rfl⟩)))))⟩
  · simp
  · have := hM.len2
    have := hL.len
    simp
    omega
  · intro i d y hd hy
    obtain ⟨r, h1, rfl⟩ := map_get hd
    have h30 := hL.row30 hM h1
    have ey : y = r.map fD := by
      have : (L.map (List.map fD))[i]? = some (r.map fD) := by simp [h1]
      rw [this] at hy; exact (Option.some.inj hy).symm
    subst ey
    exact ⟨_, [7], _, fun j hj => hj, rfl, fun s' H' C cl fp => ⟨tg_name (i := 7) rfl (by simp) sc_beat_.nd, el_callTy call_list_of (ea_cons (ev_var (i := 7) rfl rfl) ea_nil) rcl_listT T.list⟩⟩
  · simp [readL]
  · intro i d hd
    obtain ⟨x1, x2, g1, g2, rfl⟩ := zip_item hd
    obtain ⟨p, h1, rfl⟩ := map_get g1
    obtain ⟨r, h2, rfl⟩ := map_get g2
    obtain ⟨s1, s2, _⟩ := hM.sp p (List.mem_of_getElem? h1)
    have hR : LOk M.cs (shareL (M.ts.take i) (readL M L) L) := share_ok hL
    rw [share_step h1 h2]
    generalize shareL (M.ts.take i) (readL M L) L = R at hR
    have hR1 : LOk M.cs (setAt R p.1 r) := setAt_len hR
    refine ⟨_, _, tg_tup (tgs_cons (tg_name (i := 3) rfl (by simp) sc_beat_.nd) (tgs_cons (tg_name (i := 4) rfl (by simp) sc_beat_.nd) tgs_nil)),
      Sv.to (sv_nx (st_for (S := fun j => [.d (mD M), .d (lD L), .ll ((if j = 0 then R else if j = 1 then setAt R p.1 r else setAt (setAt R p.1 r) p.2 r).map (List.map fD)), .d (pD p), .d (fD r), .x, .x, .x]) (items := [sD p.1, sD p.2]) (ei_tup (ev_var (i := 3) rfl rfl)) ?_) (sv_drop 3 (sv_drop 4 sv_nil))) rfl⟩
    intro j d hd
    match j, hd with
    | 0, hd =>
      have ed : d = sD p.1 := (Option.some.inj hd).symm
      subst ed
      obtain ⟨row, e1, e2, _⟩ := hR.spot s1
      exact ⟨_, _, tg_tup (tgs_cons (tg_name (i := 5) rfl (by simp) sc_beat_.nd) (tgs_cons (tg_name (i := 6) rfl (by simp) sc_beat_.nd) tgs_nil)),
        Sv.to (sv_nx (st_setLL (i := 2) (w := p.1.1) (n := p.1.2) (xss := R.map (List.map fD)) (xs := row.map fD) rfl (ev_var (i := 4) rfl rfl) rfl (eq_var (i := 5) rfl rfl) (eq_var (i := 6) rfl rfl) (by rw [List.getElem?_map, e1]; rfl) (by simpa using e2)) (sv_drop 5 (sv_drop 6 sv_nil))) (by rw [set_map e1]; rfl)⟩
    | 1, hd =>
      have ed : d = sD p.2 := (Option.some.inj hd).symm
      subst ed
      obtain ⟨row, e1, e2, _⟩ := hR1.spot s2
      exact ⟨_, _, tg_tup (tgs_cons (tg_name (i := 5) rfl (by simp) sc_beat_.nd) (tgs_cons (tg_name (i := 6) rfl (by simp) sc_beat_.nd) tgs_nil)),
        Sv.to (sv_nx (st_setLL (i := 2) (w := p.2.1) (n := p.2.2) (xss := (setAt R p.1 r).map (List.map fD)) (xs := row.map fD) rfl (ev_var (i := 4) rfl rfl) rfl (eq_var (i := 5) rfl rfl) (eq_var (i := 6) rfl rfl) (by rw [List.getElem?_map, e1]; rfl) (by simpa using e2)) (sv_drop 5 (sv_drop 6 sv_nil))) (by rw [set_map e1]; rfl)⟩
    | n + 2, hd => simp at hd
  · have : M.ts.take ((zipD (M.ts.map pD) ((readL M L).map fD)).length) = M.ts := List.take_of_length_le (by simp [zipD_len, readL])
    simp only [this]
  · simp [beatL, rollL]
  · have := hM.len2
    have := (share_ok (ts := M.ts) (rs := readL M L) hL).len
    simp
    omega
  · intro i d y hd hy
    have hB := share_ok (ts := M.ts) (rs := readL M L) hL
    rw [List.map_map] at hd
    obtain ⟨r, h1, rfl⟩ := map_get hd
    have h30 := hB.row30 hM h1
    have ey : y = .list ((rollR r).map fD) := by
      have : (((beatL M L).map (List.map fD)).map PyData.list)[i]? = some (.list ((rollR r).map fD)) := by simp [beatL, rollL, h1]
      rw [this] at hy; exact (Option.some.inj hy).symm
    subst ey
    refine ⟨_, [7], _, fun j hj => hj, rfl, fun s' H' C cl fp => ⟨tg_name (i := 7) rfl (by simp) sc_beat_.nd, Ev.to (EvL.ev (el_cat (el_sliceF (ev_var (i := 7) rfl rfl)) (el_sliceT (ev_var (i := 7) rfl rfl)) ?_)) ?_⟩⟩
    · rw [slice_drop, slice_take]
      simp
      omega
    · rw [slice_drop, slice_take]
      simp [rollR]
  · have := hM.len2
    have := (beat_ok hL).len
    omega
end
end Ewl

set_option maxRecDepth 100000
set_option maxHeartbeats 4000000
set_option exponentiation.threshold 10000
namespace Ewl
open PySem L2
section
variable {P : Program} {w : World} {K : PySem.W.Frag} {mg : Str → Option Value} {base : Heap}
theorem sc_beat : FnScope ["machine", "load"] ["machine", "load"] (defScope (top 42)) := ⟨rfl, rfl, rfl, by decide +kernel, rfl, by decide +kernel, by decide +kernel⟩
theorem ok_beat {f : Addr} {fd : FuncData} (F : Fun K "beat" "beat" (top 42) f fd) (T : Tx mg) (f1 : Fn P w K mg base "need_load" 6 (spD K gNeedLoad)) (f2 : Fn P w K mg base "_beat" 4 (spD K gBeat_)) : FnOk P w K mg base CX0 7 f fd ["machine", "load"] (spD K gBeat_) := by
  refine okD F sc_beat (fun ds z ⟨_, _, _, _, _, e, _⟩ => by rw [e]; rfl) fun cdv A outer s H E hr ds z ⟨M, L, hM, hL, hz, e1, e2⟩ => ?_
  subst e1 e2
  exact ⟨_, sv_nx (st_drop (ev_call f1 hr (ea_cons (ev_var (i := 0) rfl rfl) (ea_cons (ev_var (i := 1) rfl rfl) ea_nil)) ⟨M, L, hM, hL, rfl, rfl⟩))
    (sv_ret (st_ret (ev_call f2 (hr.mono (by decide)) (ea_cons (ev_var (i := 0) rfl rfl) (ea_cons (ev_var (i := 1) rfl rfl) ea_nil)) ⟨M, L, hM, hL, hz, rfl, rfl⟩)))⟩
def gBehind (ds : List PyData) (z : PyData) : Prop := ∃ (M : Mach) (L : List (List Rat)) (n : Nat), MOk M ∧ LOk M.cs L ∧ n ≤ 300 ∧ (∀ i, i < n → SzL 1700 (itB M i L)) ∧ ds = [mD M, lD L, .int (n : Nat)] ∧ z = lD (itB M n L)
theorem sc_behind : FnScope ["machine", "load", "beats", "now", "_"] ["machine", "load", "beats"] (defScope (top 43)) := ⟨rfl, rfl, rfl, by decide +kernel, rfl, by decide +kernel, by decide +kernel⟩
theorem rng_item {lo : Int} {n i : Nat} {d : PyData} (h : (rngD lo n)[i]? = some d) : i < n ∧ d = .int (lo + (i : Nat)) := by
  have hi : i < n := by
    have := (List.getElem?_eq_some_iff.mp h).1
    simpa [rngD_len] using this
  rw [rngD_get hi] at h
  exact ⟨hi, (Option.some.inj h).symm⟩
theorem ok_behind {f : Addr} {fd : FuncData} (F : Fun K "behind" "behind" (top 43) f fd) (T : Tx mg) (f1 : Fn P w K mg base "need_load" 6 (spD K gNeedLoad)) (f2 : Fn P w K mg base "need_beats" 2 (spD K gNeedBeats)) (f3 : Fn P w K mg base "_beat" 4 (spD K gBeat_)) : FnOk P w K mg base CX0 7 f fd ["machine", "load", "beats"] (spD K gBehind) := by
  refine okD F sc_behind (fun ds z ⟨_, _, _, _, _, _, _, e, _⟩ => by rw [e]; rfl) fun cdv A outer s H E hr ds z ⟨M, L, n, hM, hL, hn, hz, e1, e2⟩ => ?_
  subst e1 e2
  refine ⟨_, sv_nx (st_drop (ev_call f1 hr (ea_cons (ev_var (i := 0) rfl rfl) (ea_cons (ev_var (i := 1) rfl rfl) ea_nil)) ⟨M, L, hM, hL, rfl, rfl⟩))
    (sv_nx (st_drop (ev_call f2 (hr.mono (by decide)) (ea_cons (ev_var (i := 2) rfl rfl) ea_nil) ⟨n, hn, rfl, rfl⟩))
    (sv_nx (st_asg (ev_var (i := 1) rfl rfl) (i := 3) rfl (by simp) sc_behind.nd)
    (sv_nx (St1.to (s2 := [.d (mD M), .d (lD L), .d (.int (n : Nat)), .d (lD (itB M n L)), .x]) (st_for (S := fun i => [.d (mD M), .d (lD L), .d (.int (n : Nat)), .d (lD (itB M i L)), .x]) (items := rngD 0 n) (ei_rng1 (j := n) (ea_cons (ev_var (i := 2) rfl rfl) ea_nil) T.range (by omega)) ?_) ?_)
    (sv_ret (st_ret (ev_var (i := 3) rfl rfl))))))⟩
  · intro i d hd
    obtain ⟨hi, rfl⟩ := rng_item hd
    exact ⟨_, _, tg_name (i := 4) rfl (by simp) sc_behind.nd, Sv.to (sv_nx (st_asg (ev_call f3 (hr.mono (by decide)) (ea_cons (ev_var (i := 0) rfl rfl) (ea_cons (ev_var (i := 3) rfl rfl) ea_nil)) ⟨M, itB M i L, hM, it_ok hL i, hz i hi, rfl, rfl⟩) (i := 3) rfl (by simp) sc_behind.nd) (sv_drop 4 sv_nil)) rfl⟩
  · rw [rngD_len]
def toldL (M : Mach) (L : List (List Rat)) (n : Nat) : List PyData := (List.range n).map fun i => rowD (readL M (itB M i L))
theorem told_succ {M : Mach} {L : List (List Rat)} {n : Nat} : toldL M L (n + 1) = toldL M L n ++ [rowD (readL M (itB M n L))] := by simp [toldL, List.range_succ]
def gReadings (ds : List PyData) (z : PyData) : Prop := ∃ (M : Mach) (L : List (List Rat)) (n : Nat), MOk M ∧ LOk M.cs L ∧ n ≤ 300 ∧ (∀ i, i < n → SzL 1700 (itB M i L)) ∧ ds = [mD M, lD L, .int (n : Nat)] ∧ z = .list (toldL M L n)
theorem sc_readings : FnScope ["machine", "load", "beats", "found", "now", "_"] ["machine", "load", "beats"] (defScope (top 44)) := ⟨rfl, rfl, rfl, by decide +kernel, rfl, by decide +kernel, by decide +kernel⟩
theorem ok_readings {f : Addr} {fd : FuncData} (F : Fun K "readings" "readings" (top 44) f fd) (T : Tx mg) (f1 : Fn P w K mg base "need_load" 6 (spD K gNeedLoad)) (f2 : Fn P w K mg base "need_beats" 2 (spD K gNeedBeats)) (f3 : Fn P w K mg base "_beat" 4 (spD K gBeat_)) (f4 : Fn P w K mg base "_read" 3 (spD K gRead_)) : FnOk P w K mg base CX0 7 f fd ["machine", "load", "beats"] (spD K gReadings) := by
  refine okD F sc_readings (fun ds z ⟨_, _, _, _, _, _, _, e, _⟩ => by rw [e]; rfl) fun cdv A outer s H E hr ds z ⟨M, L, n, hM, hL, hn, hz, e1, e2⟩ => ?_
  subst e1 e2
  refine ⟨_, sv_nx (st_drop (ev_call f1 hr (ea_cons (ev_var (i := 0) rfl rfl) (ea_cons (ev_var (i := 1) rfl rfl) ea_nil)) ⟨M, L, hM, hL, rfl, rfl⟩))
    (sv_nx (st_drop (ev_call f2 (hr.mono (by decide)) (ea_cons (ev_var (i := 2) rfl rfl) ea_nil) ⟨n, hn, rfl, rfl⟩))
    (sv_nx (st_asgL (el_lst ea_nil) (i := 3) rfl (by simp) sc_readings.nd)
    (sv_nx (st_asg (ev_var (i := 1) rfl rfl) (i := 4) rfl (by simp) sc_readings.nd)
    (sv_nx (St1.to (s2 := [.d (mD M), .d (lD L), .d (.int (n : Nat)), .l (toldL M L n), .d (lD (itB M n L)), .x]) (st_for (S := fun i => [.d (mD M), .d (lD L), .d (.int (n : Nat)), .l (toldL M L i), .d (lD (itB M i L)), .x]) (items := rngD 0 n) (ei_rng1 (j := n) (ea_cons (ev_var (i := 2) rfl rfl) ea_nil) T.range (by omega)) ?_) ?_)
    (sv_frz (i := 3) rfl (sv_ret (st_ret (ev_var (i := 3) rfl rfl))))))))⟩
  · intro i d hd
    obtain ⟨hi, rfl⟩ := rng_item hd
    refine ⟨_, _, tg_name (i := 5) rfl (by simp) sc_readings.nd, Sv.to (sv_nx (st_app (i := 3) (xs := toldL M L i) rfl rfl (ev_call f4 (hr.mono (by decide)) (ea_cons (ev_var (i := 0) rfl rfl) (ea_cons (ev_var (i := 4) rfl rfl) ea_nil)) ⟨M, itB M i L, hM, it_ok hL i, hz i hi, rfl, rfl⟩) rfl (by simp [toldL]; omega))
      (sv_nx (st_asg (ev_call f3 (hr.mono (by decide)) (ea_cons (ev_var (i := 0) rfl rfl) (ea_cons (ev_var (i := 4) rfl rfl) ea_nil)) ⟨M, itB M i L, hM, it_ok hL i, hz i hi, rfl, rfl⟩) (i := 4) rfl (by simp) sc_readings.nd) (sv_drop 5 sv_nil))) ?_⟩
    rw [told_succ]; rfl
  · rw [rngD_len]
end
end Ewl

set_option maxRecDepth 100000
set_option maxHeartbeats 4000000
set_option exponentiation.threshold 10000
namespace Ewl
open PySem L2
/-! ### what the law draws -/
def prI (r : Int) : Int := if r = 0 then 1000000007 else if r = 1 then 998244353 else if r = 2 then 2147483629 else 1000000009
def preI (cell k : Int) : Int := cell % prI (k % 4) + 7919 * k + 13
def mixI (cell k : Int) : Int := preI cell k * preI cell k % 2147483647 * 48271 % 2147483647
structure DS where
  left : Int
  cell : Int
  turns : Int
def dsK (s : DS) : List (Key × PyData) := [(.inr "left", .int s.left), (.inr "cell", .int s.cell), (.inr "turns", .int s.turns)]
def refill (s : DS) : DS := ⟨s.left * 2147483647 + mixI s.cell (s.turns + 1), s.cell, s.turns + 1⟩
def refills : Nat → DS → DS
  | 0, s => s
  | n + 1, s => refill (refills n s)
def readyS (s : DS) : DS := if s.left = 0 then refills 4 s else s
def digS (s : DS) (n : Int) : DS := ⟨(readyS s).left / n, (readyS s).cell, (readyS s).turns⟩
def digI (s : DS) (n : Int) : Int := (readyS s).left % n
def DOk (b : Nat) (s : DS) : Prop := 0 ≤ s.turns ∧ s.turns ≤ 4 * (b : Int)
theorem refills_turns (s : DS) : ∀ n : Nat, (refills n s).turns = s.turns + n
  | 0 => by simp [refills]
  | n + 1 => by
    have := refills_turns s n
    show (refills n s).turns + 1 = _
    rw [this]; push_cast; omega
theorem dig_ok {b : Nat} {s : DS} {n : Int} (h : DOk b s) : DOk (b + 1) (digS s n) := by
  unfold DOk digS readyS at *
  split
  · have := refills_turns s 4
    simp only [this]
    push_cast
    omega
  · push_cast
    omega
theorem DOk.mono {b c : Nat} {s : DS} (h : DOk b s) (hc : b ≤ c) : DOk c s := by unfold DOk at *; omega
theorem dig_lt {s : DS} {n : Int} (h : 0 < n) : 0 ≤ digI s n ∧ digI s n < n := ⟨Int.emod_nonneg _ (by omega), Int.emod_lt_of_pos _ h⟩
theorem pr_at (k : Int) : atI [PyData.int 1000000007, .int 998244353, .int 2147483629, .int 1000000009] (k % 4) = some (.int (prI (k % 4))) := by
  have h1 : 0 ≤ k % 4 := Int.emod_nonneg _ (by decide)
  have h2 : k % 4 < 4 := Int.emod_lt_of_pos _ (by decide)
  have h : k % 4 = 0 ∨ k % 4 = 1 ∨ k % 4 = 2 ∨ k % 4 = 3 := by omega
  rcases h with h | h | h | h <;> rw [h] <;> rfl
theorem pr_pos (r : Int) : 0 < prI r ∧ prI r ≤ 2147483629 := by
  unfold prI
  split
  · omega
  · split
    · omega
    · split <;> omega
theorem val_left (s : DS) : valD (dsK s) (.inr "left") = some (.int s.left) := rfl
theorem val_cell (s : DS) : valD (dsK s) (.inr "cell") = some (.int s.cell) := rfl
theorem val_turns (s : DS) : valD (dsK s) (.inr "turns") = some (.int s.turns) := rfl
theorem put_left (s : DS) (i : Int) : putD (dsK s) (.inr "left") (.int i) = dsK ⟨i, s.cell, s.turns⟩ := rfl
theorem put_turns (s : DS) (i : Int) : putD (dsK s) (.inr "turns") (.int i) = dsK ⟨s.left, s.cell, i⟩ := rfl
section
variable {P : Program} {w : World} {K : PySem.W.Frag} {mg : Str → Option Value} {base : Heap}
def gMixed (ds : List PyData) (z : PyData) : Prop := ∃ cell k : Int, 0 ≤ k ∧ k ≤ 10000000 ∧ ds = [.int cell, .int k] ∧ z = .int (mixI cell k)
theorem sc_mixed : FnScope ["cell", "k", "mixed"] ["cell", "k"] (defScope (top 49)) := ⟨rfl, rfl, rfl, by decide +kernel, rfl, by decide +kernel, by decide +kernel⟩
theorem ok_mixed {f : Addr} {fd : FuncData} (F : Fun K "_law_mixed" "_law_mixed" (top 49) f fd) (T : Tx mg) : FnOk P w K mg base CX0 1 f fd ["cell", "k"] (spD K gMixed) := by
  refine okD F sc_mixed (fun ds z ⟨_, _, _, _, e, _⟩ => by rw [e]; rfl) fun cdv A outer s H E hr ds z ⟨cell, k, h0, h1, e1, e2⟩ => ?_
  subst e1 e2
  have hp := pr_pos (k % 4)
  have a1 : 0 ≤ cell % prI (k % 4) := Int.emod_nonneg _ (by omega)
  have a2 : cell % prI (k % 4) < prI (k % 4) := Int.emod_lt_of_pos _ hp.1
  have hm : -(2 ^ 64) < preI cell k ∧ preI cell k < 2 ^ 64 := by unfold preI; omega
  exact ⟨_, sv_nx (st_asg (ev_bin op_add (ev_bin op_add (ev_bin op_mod (ev_var (i := 0) rfl rfl) (ev_ix ix_list (EvL.ev (el_lst (ea_cons ev_int (ea_cons ev_int (ea_cons ev_int (ea_cons ev_int ea_nil)))))) (ev_bin op_mod (ev_var (i := 1) rfl rfl) ev_int (rd_intC (show (0 : Int) < 4 by decide))) (rd_ixL (pr_at k))) (rd_intC hp.1))
      (ev_bin op_mul ev_int (ev_var (i := 1) rfl rfl) (rd_intC (Or.inl (by omega)))) rd_int) ev_int rd_int) (i := 2) rfl (by simp) sc_mixed.nd)
    (sv_ret (st_ret (ev_bin op_mod (ev_bin op_mul (ev_bin op_mod (ev_bin op_mul (ev_var (i := 2) (d := .int (preI cell k)) rfl rfl) (ev_var (i := 2) (d := .int (preI cell k)) rfl rfl) (rd_intC (Or.inl hm))) ev_int (rd_intC (show (0 : Int) < 2147483647 by decide))) ev_int (rd_intC (Or.inr (by omega)))) ev_int (rd_intC (show (0 : Int) < 2147483647 by decide)))))⟩
def startS (cell k : Int) : DS := ⟨if 10 ^ 18 ≤ cell then cell else 0, cell, 1000 * k⟩
def gDraw (ds : List PyData) (kvs : List (Key × PyData)) : Prop := ∃ cell k : Int, 0 ≤ k ∧ k ≤ 4 ∧ ds = [.int cell, .int k] ∧ kvs = dsK (startS cell k)
theorem sc_draw : FnScope ["cell", "k"] ["cell", "k"] (defScope (top 50)) := ⟨rfl, rfl, rfl, by decide +kernel, rfl, by decide +kernel, by decide +kernel⟩
theorem ok_draw {f : Addr} {fd : FuncData} (F : Fun K "_law_draw" "_law_draw" (top 50) f fd) (T : Tx mg) : FnOk P w K mg base CX0 1 f fd ["cell", "k"] (spK K gDraw) := by
  refine okK F sc_draw (fun ds z ⟨_, _, _, _, e, _⟩ => by rw [e]; rfl) rfl fun cdv A outer s H E hr ds z ⟨cell, k, h0, h1, e1, e2⟩ => ?_
  subst e1 e2
  refine ⟨_, ek_disp3 (d1 := .int (if 10 ^ 18 ≤ cell then cell else 0)) (ev_ite (et_cmp op_ge (ev_var (i := 0) rfl rfl) (ev_bin op_pow ev_int ev_int (rd_intC ⟨by decide, by decide, by decide⟩)) rd_bool) (fun h => Ev.to (ev_var (i := 0) rfl rfl) ?_) (fun h => Ev.to ev_int ?_)) (ev_var (i := 0) rfl rfl) (ev_bin op_mul ev_int (ev_var (i := 1) rfl rfl) (rd_intC (Or.inl (by omega))))⟩
  · rw [if_pos (by simpa using h)]
  · rw [if_neg (by simpa using h)]
def gDigit (kvs : List (Key × PyData)) (ds : List PyData) (kvs' : List (Key × PyData)) (z : PyData) : Prop :=
  ∃ (st : DS) (n : Int) (b : Nat), DOk b st ∧ b ≤ 1000000 ∧ 0 < n ∧ n < 1000000 ∧ kvs = dsK st ∧ ds = [.int n] ∧ kvs' = dsK (digS st n) ∧ z = .int (digI st n)
theorem sc_digit : FnScope ["state", "size", "j", "found"] ["state", "size"] (defScope (top 51)) := ⟨rfl, rfl, rfl, by decide +kernel, rfl, by decide +kernel, by decide +kernel⟩
theorem ok_digit {f : Addr} {fd : FuncData} (F : Fun K "_law_digit" "_law_digit" (top 51) f fd) (T : Tx mg) (f1 : Fn P w K mg base "_law_mixed" 1 (spD K gMixed)) : FnOk P w K mg base CX0 2 f fd ["state", "size"] (spS K gDigit) := by
  refine okS F sc_digit (fun kvs ds kvs' z ⟨_, _, _, _, _, _, _, _, e, _⟩ => by rw [e]; rfl) fun cdv A outer s H E hr p kvs ds kvs' z ⟨st, n, b, hb, hb1, hn, hn1, e0, e1, e2, e3⟩ => ?_
  subst e0 e1 e2 e3
  have hu : (cxOf CX0 P w K mg base ["state", "size", "j", "found"] "_law_digit" (defScope (top 51)) f cdv A outer s H E).nox.A.units + 1 < cLine := hr.u1
  refine ⟨[.dk (some p) (dsK (digS st n)), .d (.int n), .x, .d (.int (digI st n))], rfl, sv_nx (s1 := [.dk (some p) (dsK (readyS st)), .d (.int n), .x, .x]) (st_if (et_cmp (op_eqD hr.u64) (ev_dgetK (i := 0) rfl rfl (val_left st) hu) ev_int (rd_eqD (sh_int _).shaped (sh_int _).shaped)) (fun h => ?_) (fun h => ?_))
    (sv_nx (st_asg (ev_bin op_mod (ev_dgetK (i := 0) rfl rfl (val_left _) hu) (ev_var (i := 1) rfl rfl) (rd_intC hn)) (i := 3) rfl (by simp) sc_digit.nd)
    (sv_nx (st_dputK (i := 0) rfl (ev_bin op_fdiv (ev_dgetK (i := 0) rfl rfl (val_left _) hu) (ev_var (i := 1) rfl rfl) (rd_intC ⟨hn, by omega⟩)) rfl (by simp [dsK]) hu)
    (sv_ret (st_ret (ev_var (i := 3) rfl rfl)))))⟩
  · have h0 : st.left = 0 := by simpa [PyData.eqv] using h
    refine sv_one (St1.to (st_for (S := fun i => [.dk (some p) (dsK (refills i st)), .d (.int n), .x, .x]) (items := rngD 0 4) (ei_rng1 (j := 4) (ea_cons ev_int ea_nil) T.range (by omega)) ?_) (by unfold readyS; rw [if_pos h0, rngD_len]))
    intro i d hd
    obtain ⟨hi, rfl⟩ := rng_item hd
    have ht := refills_turns st i
    refine ⟨_, _, tg_name (i := 2) rfl (by simp) sc_digit.nd, Sv.to (sv_nx (st_dputK (i := 0) rfl (ev_bin op_add (ev_dgetK (i := 0) rfl rfl (val_turns _) hu) ev_int rd_int) rfl (by simp [dsK]) hu)
      (sv_nx (st_dputK (i := 0) (kvs := dsK ⟨(refills i st).left, (refills i st).cell, (refills i st).turns + 1⟩) rfl (ev_bin op_add (ev_bin op_mul (ev_dgetK (i := 0) (kvs := dsK ⟨(refills i st).left, (refills i st).cell, (refills i st).turns + 1⟩) rfl rfl (val_left _) hu) ev_int (rd_intC (Or.inr (by omega))))
        (ev_call f1 hr (ea_cons (ev_dgetK (i := 0) (kvs := dsK ⟨(refills i st).left, (refills i st).cell, (refills i st).turns + 1⟩) rfl rfl (val_cell _) hu) (ea_cons (ev_dgetK (i := 0) (kvs := dsK ⟨(refills i st).left, (refills i st).cell, (refills i st).turns + 1⟩) rfl rfl (val_turns _) hu) ea_nil)) ⟨_, _, ?_, ?_, rfl, rfl⟩) rd_int) rfl (by simp [dsK]) hu) (sv_drop 2 sv_nil))) rfl⟩
    · unfold DOk at hb; simp only; omega
    · unfold DOk at hb; simp only; omega
  · have h0 : ¬ st.left = 0 := by simpa [PyData.eqv] using h
    exact Sv.to sv_nil (by unfold readyS; rw [if_neg h0]; rfl)
end
end Ewl

set_option maxRecDepth 100000
set_option maxHeartbeats 4000000
set_option exponentiation.threshold 10000
namespace Ewl
open PySem L2
section
variable {X : Cx} {s0 : List Sl} {p p2 p3 : Pos} {i : Nat} {x : Str}
theorem ev_sumO {ns : List Int} (hN : X.N[i]? = some x) (h0 : s0[i]? = some (.l (ns.map .int))) (hm : X.mg "sum" = none) (hc : X.calm = true := by rfl) (hg : Gl X "sum" := by rfl) (hv : Vis X.env.scope x := by first | exact Or.inl rfl | exact Or.inr (Or.inl rfl) | exact Or.inr (Or.inr rfl))
    (hd : (x == ("__debug__" : Str)) = false := by decide) (hcd : (x == ("__classdict__" : Str)) = false := by decide) (he : starEach [Expr.Name x p] X.env = (false, eval (.Name x p) X.env) :: starEach [] X.env := by rfl) (hpl : (backTo p3 (starEach [] X.env)).any (·.1) = false := by rfl) :
    Ev X (.Call (.Name "sum" p2) [.Name x p] [] p3) s0 s0 (.int ns.sum) := .mk fun {G₀ H₀ G H σ} E Q q => by
  obtain ⟨l, vs, hσ, gn, _, hl, r⟩ := E.getL h0
  have e := dpAll_ints' r
  subst e
  refine W.of (pe_callB (id := "sum") (cr_sum hc) hg hm (by decide +kernel) (pa_cons (pe_var hN hv hd hcd) pa_nil he) (by decide) (by decide) he hpl) ⟨_, hσ, ?_⟩
  exact ⟨l, ns, rfl, SqL.of hl, q _ G H E (Ex.refl G) (.int _)⟩
end
def byI (d : Int) : Int := if d = 0 then 1 else if d = 1 then 2 else if d = 2 then 2 else if d = 3 then 3 else if d = 4 then 4 else 6
theorem by_at {d : Int} (h : 0 ≤ d ∧ d < 6) : atI [PyData.int 1, .int 2, .int 2, .int 3, .int 4, .int 6] d = some (.int (byI d)) := by
  have h : d = 0 ∨ d = 1 ∨ d = 2 ∨ d = 3 ∨ d = 4 ∨ d = 5 := by omega
  rcases h with h | h | h | h | h | h <;> rw [h] <;> rfl
theorem by_pos (d : Int) : 1 ≤ byI d ∧ byI d ≤ 6 := by
  unfold byI
  repeat (first | omega | split)
def oneI (by_ : Int) (x : DS × List Nat) : Int := min 12 (min (by_ * (1 + digI x.1 4)) (18 - (x.2.sum : Nat)))
def cstep (by_ : Int) (x : DS × List Nat) : DS × List Nat := (digS x.1 4, x.2 ++ if 0 < oneI by_ x then [(oneI by_ x).toNat] else [])
def citer (by_ : Int) : Nat → DS × List Nat → DS × List Nat
  | 0, x => x
  | n + 1, x => cstep by_ (citer by_ n x)
def lcN (st : DS) : Nat := (1 + digI (digS st 6) 6).toNat
def lcX (st : DS) : DS × List Nat := citer (byI (digI st 6)) (lcN st) (digS (digS st 6) 6, [])
/-- counts that are right -/
structure COk (cs : List Nat) : Prop where
  pos : ∀ c ∈ cs, 1 ≤ c
  sum : cs.sum ≤ 18
theorem citer_ok {by_ : Int} {x : DS × List Nat} {b : Nat} (hd : DOk b x.1) (hx : x.2 = []) : ∀ n, DOk (b + n) (citer by_ n x).1 ∧ COk (citer by_ n x).2 ∧ (citer by_ n x).2.length ≤ n
  | 0 => ⟨hd, by simp [citer, hx]; exact ⟨by simp, by simp⟩, by simp [citer, hx]⟩
  | n + 1 => by
    obtain ⟨h1, ⟨h2, h3⟩, h4⟩ := citer_ok hd hx n
    refine ⟨dig_ok h1, ?_, ?_⟩
    · show COk ((citer by_ n x).2 ++ if 0 < oneI by_ (citer by_ n x) then [(oneI by_ (citer by_ n x)).toNat] else [])
      split
      · rename_i h
        have e : oneI by_ (citer by_ n x) ≤ 18 - ((citer by_ n x).2.sum : Nat) := by unfold oneI; omega
        refine ⟨fun c hc => ?_, ?_⟩
        · rcases List.mem_append.mp hc with z | z
          · exact h2 c z
          · rw [List.mem_singleton.mp z]; omega
        · rw [List.sum_append]
          simp
          omega
      · rw [List.append_nil]; exact ⟨h2, h3⟩
    · show ((citer by_ n x).2 ++ if 0 < oneI by_ (citer by_ n x) then [(oneI by_ (citer by_ n x)).toNat] else []).length ≤ n + 1
      split <;> simp <;> omega
theorem citer_ne {by_ : Int} {x : DS × List Nat} (hb : 1 ≤ by_) (hx : x.2 = []) : ∀ n, 1 ≤ n → 1 ≤ (citer by_ n x).2.length
  | 0, h => by omega
  | 1, _ => by
    have hdg : 0 ≤ digI x.1 4 := (dig_lt (by decide)).1
    have hm : 1 * 1 ≤ by_ * (1 + digI x.1 4) := Int.mul_le_mul hb (by omega) (by omega) (by omega)
    have h0 : 0 < oneI by_ x := by unfold oneI; rw [hx]; simp; omega
    show 1 ≤ (x.2 ++ if 0 < oneI by_ x then [(oneI by_ x).toNat] else []).length
    rw [if_pos h0, hx]; simp
  | n + 2, _ => by
    have := citer_ne hb hx (n + 1) (by omega)
    show 1 ≤ ((citer by_ (n + 1) x).2 ++ _).length
    rw [List.length_append]; omega
theorem lc_ok {st : DS} {b : Nat} (h : DOk b st) : DOk (b + 8) (lcX st).1 ∧ COk (lcX st).2 ∧ 1 ≤ (lcX st).2.length ∧ (lcX st).2.length ≤ 6 := by
  have hd := dig_lt (s := digS st 6) (n := 6) (by decide)
  have hn : 1 ≤ lcN st ∧ lcN st ≤ 6 := by unfold lcN; omega
  have q := citer_ok (by_ := byI (digI st 6)) (x := (digS (digS st 6) 6, [])) (b := b + 2) (dig_ok (dig_ok h)) rfl (lcN st)
  have r := citer_ne (by_ := byI (digI st 6)) (x := (digS (digS st 6) 6, [])) (by_pos _).1 rfl (lcN st) hn.1
  refine ⟨q.1.mono (by omega), q.2.1, r, ?_⟩
  have := q.2.2
  unfold lcX
  omega
section
variable {P : Program} {w : World} {K : PySem.W.Frag} {mg : Str → Option Value} {base : Heap}
def gLCounts (kvs : List (Key × PyData)) (ds : List PyData) (kvs' : List (Key × PyData)) (z : PyData) : Prop :=
  ∃ (st : DS) (b : Nat), DOk b st ∧ b ≤ 900000 ∧ kvs = dsK st ∧ ds = [.int 18] ∧ kvs' = dsK (lcX st).1 ∧ z = cD (lcX st).2
theorem sc_lcounts : FnScope ["state", "most", "by", "found", "j", "one"] ["state", "most"] (defScope (top 52)) := ⟨rfl, rfl, rfl, by decide +kernel, rfl, by decide +kernel, by decide +kernel⟩
theorem ok_lcounts {f : Addr} {fd : FuncData} (F : Fun K "_law_counts" "_law_counts" (top 52) f fd) (T : Tx mg) (f1 : Fn P w K mg base "_law_digit" 2 (spS K gDigit)) : FnOk P w K mg base CX0 3 f fd ["state", "most"] (spS K gLCounts) := by
  refine okS F sc_lcounts (fun kvs ds kvs' z ⟨_, _, _, _, _, e, _⟩ => by rw [e]; rfl) fun cdv A outer s H E hr p kvs ds kvs' z ⟨st, b, hb, hb1, e0, e1, e2, e3⟩ => ?_
  subst e0 e1 e2 e3
  have hn0 : 0 ≤ 1 + digI (digS st 6) 6 ∧ 1 + digI (digS st 6) 6 ≤ 6 := by have := dig_lt (s := digS st 6) (n := 6) (by decide); omega
  have hby := by_pos (digI st 6)
  have hcit := fun n => citer_ok (by_ := byI (digI st 6)) (x := (digS (digS st 6) 6, [])) (b := b + 2) (dig_ok (dig_ok hb)) rfl n
  refine ⟨[.dk (some p) (dsK (lcX st).1), .d (.int 18), .d (.int (byI (digI st 6))), .d (.list ((zs (lcX st).2).map .int)), .x, .x], rfl,
    sv_nx (st_parDL (i := 2) (j := 3) (ev_ix ix_list (EvL.ev (el_lst (ea_cons ev_int (ea_cons ev_int (ea_cons ev_int (ea_cons ev_int (ea_cons ev_int (ea_cons ev_int ea_nil)))))))) (ev_callS (i := 0) f1 hr (ea_cons ev_int ea_nil) rfl ⟨_, _, rfl⟩ ⟨st, 6, b, hb, by omega, by decide, by decide, rfl, rfl, rfl, rfl⟩ rfl) (rd_ixL (by_at (dig_lt (by decide))))) rfl rfl (by decide) (by simp) (by simp) sc_lcounts.nd)
    (sv_nx (St1.to (s2 := [.dk (some p) (dsK (lcX st).1), .d (.int 18), .d (.int (byI (digI st 6))), .l ((zs (lcX st).2).map .int), .x, .x])
      (st_for (S := fun i => [.dk (some p) (dsK (citer (byI (digI st 6)) i (digS (digS st 6) 6, [])).1), .d (.int 18), .d (.int (byI (digI st 6))), .l ((zs (citer (byI (digI st 6)) i (digS (digS st 6) 6, [])).2).map .int), .x, .x]) (items := rngD 0 (lcN st))
        (ei_rng1 (j := 1 + digI (digS st 6) 6) (ea_cons (ev_bin op_add ev_int (ev_callS (i := 0) f1 hr (ea_cons ev_int ea_nil) rfl ⟨_, _, rfl⟩ ⟨digS st 6, 6, b + 1, dig_ok hb, by omega, by decide, by decide, rfl, rfl, rfl, rfl⟩ rfl) rd_int) ea_nil) T.range (by omega)) ?_) (by rw [rngD_len]; rfl))
    (sv_frz (i := 3) rfl (sv_ret (st_ret (ev_callTy call_tuple_of (ea_cons (ev_var (i := 3) rfl rfl) ea_nil) rc_tupL T.tuple)))))⟩
  intro i d hd
  obtain ⟨hi, rfl⟩ := rng_item hd
  obtain ⟨hD, hC, hL⟩ := hcit i
  have hNl : lcN st ≤ 6 := by unfold lcN; omega
  show ∃ m ts, Tg _ _ _ _ m ts ∧ Sv _ _ m (.nx [.dk (some p) (dsK (cstep (byI (digI st 6)) (citer (byI (digI st 6)) i (digS (digS st 6) 6, []))).1), .d (.int 18), .d (.int (byI (digI st 6))), .l ((zs (cstep (byI (digI st 6)) (citer (byI (digI st 6)) i (digS (digS st 6) 6, []))).2).map .int), .x, .x])
  generalize citer (byI (digI st 6)) i (digS (digS st 6) 6, []) = x at *
  have hdg := dig_lt (s := x.1) (n := 4) (by decide)
  refine ⟨_, _, tg_name (i := 4) rfl (by simp) sc_lcounts.nd, Sv.to (sv_nx (st_asg (d := .int (oneI (byI (digI st 6)) x)) (Ev.to (ev_callB (cr_min3 rfl) (ea_cons ev_int (ea_cons (ev_bin op_mul (ev_var (i := 2) rfl rfl) (ev_bin op_add ev_int (ev_callS (i := 0) f1 hr (ea_cons ev_int ea_nil) rfl ⟨_, _, rfl⟩ ⟨x.1, 4, b + 2 + i, hD, by omega, by decide, by decide, rfl, rfl, rfl, rfl⟩ rfl) rd_int) (rd_intC (Or.inl (by omega))))
      (ea_cons (ev_bin op_sub (ev_var (i := 1) rfl rfl) (ev_sumO (i := 3) (ns := zs x.2) rfl rfl T.sum) rd_int) ea_nil))) rc_min3 T.min) ?_) (i := 5) rfl (by simp) sc_lcounts.nd)
    (sv_nx (st_asgL (el_catO (i := 3) (xs := (zs x.2).map .int) rfl rfl (el_rep (el_lst (ea_cons (ev_var (i := 5) rfl rfl) ea_nil)) (ev_callTy call_int1 (ea_cons (ev_cmp op_gt (ev_var (i := 5) rfl rfl) ev_int rd_bool) ea_nil) rc_intB T.int) ?_ ?_) rfl ?_) (i := 3) rfl (by simp) sc_lcounts.nd) (sv_drop 4 (sv_drop 5 sv_nil)))) ?_⟩
  · rw [zs_sum]; rfl
  · split <;> omega
  · split <;> simp
  · have e : ∀ c : Bool, ((List.replicate (if c = true then (1 : Int) else 0).toNat [PyData.int (oneI (byI (digI st 6)) x)]).flatten).length ≤ 1 := by
      intro c; cases c
      · exact Nat.zero_le 1
      · exact Nat.le_refl 1
    have := e (decide (0 < oneI (byI (digI st 6)) x))
    rw [List.length_map, zs_len]
    omega
  · have e : ∀ c : Bool, ((List.replicate (if c = true then (1 : Int) else 0).toNat [PyData.int (oneI (byI (digI st 6)) x)]).flatten) = if c = true then [PyData.int (oneI (byI (digI st 6)) x)] else [] := by
      intro c; cases c <;> rfl
    rw [e]
    have e2 : (zs x.2).map PyData.int ++ (if decide ((0 : Int) < oneI (byI (digI st 6)) x) = true then [PyData.int (oneI (byI (digI st 6)) x)] else []) = (zs (cstep (byI (digI st 6)) x).2).map .int := by
      unfold cstep
      by_cases h : 0 < oneI (byI (digI st 6)) x
      · simp only [h, decide_true, if_true, zs, List.map_append, List.map_cons, List.map_nil]
        rw [Int.toNat_of_nonneg (by omega)]
      · simp [h, zs]
    rw [← e2]
    rfl
end
end Ewl

set_option maxRecDepth 100000
set_option maxHeartbeats 4000000
set_option exponentiation.threshold 10000
namespace Ewl
open PySem L2
def minS (a b : Spot) : Spot := if sLt b a then b else a
def maxS (a b : Spot) : Spot := if sLt a b then b else a
def tDo (x : DS × List Spot × List (Spot × Spot)) : DS × List Spot × List (Spot × Spot) :=
  let n1 := x.2.1.length
  let d1 := (digI x.1 n1).toNat
  let s1 := digS x.1 n1
  let one := x.2.1.getD d1 (0, 0)
  let f1 := x.2.1.eraseIdx d1
  let n2 := f1.length
  let d2 := (digI s1 n2).toNat
  let far := f1.getD d2 (0, 0)
  (digS s1 n2, f1.eraseIdx d2, x.2.2 ++ [(minS one far, maxS one far)])
def tstep (x : DS × List Spot × List (Spot × Spot)) : DS × List Spot × List (Spot × Spot) := if 1 < x.2.1.length then tDo x else x
def titer (x : DS × List Spot × List (Spot × Spot)) : Nat → DS × List Spot × List (Spot × Spot)
  | 0 => x
  | n + 1 => tstep (titer x n)
def sortP (ps : List (Spot × Spot)) : List (Spot × Spot) := ps.mergeSort fun a b => !decide (pLt b a)
def ltX (st : DS) (cs : List Nat) : DS × List Spot × List (Spot × Spot) := titer (digS st 9, (spotsL cs).flatten, []) (digI st 9).toNat
def lmX (st : DS) : DS × Mach := ((ltX (lcX st).1 (lcX st).2).1, ⟨(lcX st).2, sortP (ltX (lcX st).1 (lcX st).2).2.2⟩)
/-! what holds -/
structure TOk (cs : List Nat) (x : DS × List Spot × List (Spot × Spot)) : Prop where
  free : ∀ s ∈ x.2.1, SpOk cs s
  nd : (tSpots x.2.2 ++ x.2.1).Nodup
  sp : ∀ p ∈ x.2.2, SpOk cs p.1 ∧ SpOk cs p.2 ∧ sLt p.1 p.2
theorem sLt_tri {a b : Spot} (h : a ≠ b) : sLt a b ∨ sLt b a := by
  obtain ⟨a1, a2⟩ := a
  obtain ⟨b1, b2⟩ := b
  unfold sLt
  simp only
  by_cases h1 : a1 = b1
  · subst h1
    have : a2 ≠ b2 := fun e => h (by rw [e])
    omega
  · omega
theorem sLt_asymm {a b : Spot} (h : sLt a b) : ¬ sLt b a := by unfold sLt at *; omega
theorem sLt_trans {a b c : Spot} (h : sLt a b) (h' : sLt b c) : sLt a c := by unfold sLt at *; omega
theorem erase_perm {α : Type} {xs : List α} {n : Nat} {x : α} (h : xs[n]? = some x) : (x :: xs.eraseIdx n).Perm xs := by
  induction xs generalizing n with
  | nil => simp at h
  | cons y ys ih =>
    cases n with
    | zero =>
      simp at h
      subst h
      exact List.Perm.refl _
    | succ n =>
      simp at h
      rw [List.eraseIdx_cons_succ]
      exact (List.Perm.swap _ _ _).trans ((ih (by simpa using h)).cons _)
theorem tstep_ok {cs : List Nat} {x : DS × List Spot × List (Spot × Spot)} (h : TOk cs x) : TOk cs (tstep x) := by
  unfold tstep
  split
  · rename_i hl
    obtain ⟨s, free, found⟩ := x
    simp only at hl
    have hd := dig_lt (s := s) (n := (free.length : Nat)) (by omega)
    unfold tDo
    simp only
    generalize hk : (digI s (free.length : Nat)).toNat = k1
    have hk1 : k1 < free.length := by omega
    generalize digS s (free.length : Nat) = s1
    have e1 : free[k1]? = some (free.getD k1 (0, 0)) := by simp [hk1]
    generalize free.getD k1 (0, 0) = one at e1
    have p1 := erase_perm e1
    have l1 : (free.eraseIdx k1).length = free.length - 1 := by rw [List.length_eraseIdx]; simp [hk1]
    generalize free.eraseIdx k1 = f1 at p1 l1
    have hd2 := dig_lt (s := s1) (n := (f1.length : Nat)) (by omega)
    generalize hk' : (digI s1 (f1.length : Nat)).toNat = k2
    have hk2 : k2 < f1.length := by omega
    have e2 : f1[k2]? = some (f1.getD k2 (0, 0)) := by simp [hk2]
    generalize f1.getD k2 (0, 0) = far at e2
    have p2 := erase_perm e2
    generalize f1.eraseIdx k2 = f2 at p2
    have pp : (one :: far :: f2).Perm free := (p2.cons one).trans p1
    have hnd := h.nd
    have hfree := h.free
    have hsp := h.sp
    simp only at hnd hfree hsp
    have so : SpOk cs one := hfree one (pp.subset (by simp))
    have sf : SpOk cs far := hfree far (pp.subset (by simp))
    have nd2 : (tSpots found ++ (one :: far :: f2)).Nodup := (List.Perm.append_left (tSpots found) pp).nodup_iff.mpr hnd
    have ne : one ≠ far := by
      rw [List.nodup_append] at nd2
      have := nd2.2.1
      simp at this
      exact this.1.1
    have pr : ([minS one far, maxS one far] : List Spot).Perm [one, far] ∧ sLt (minS one far) (maxS one far) := by
      unfold minS maxS
      rcases sLt_tri ne with q | q
      · rw [if_neg (sLt_asymm q), if_pos q]; exact ⟨List.Perm.refl _, q⟩
      · rw [if_pos q, if_neg (sLt_asymm q)]; exact ⟨List.Perm.swap _ _ _, q⟩
    refine ⟨fun s hs => hfree s (pp.subset (by simp [hs])), ?_, fun p hp => ?_⟩
    · have e : tSpots (found ++ [(minS one far, maxS one far)]) ++ f2 = tSpots found ++ ([minS one far, maxS one far] ++ f2) := by simp [tSpots]
      simp only
      rw [e]
      exact (List.Perm.append_left (tSpots found) (List.Perm.append_right f2 pr.1)).nodup_iff.mpr nd2
    · rcases List.mem_append.mp hp with z | z
      · exact hsp p z
      · rw [List.mem_singleton.mp z]
        have m1 : minS one far = one ∨ minS one far = far := by unfold minS; split <;> simp
        have m2 : maxS one far = one ∨ maxS one far = far := by unfold maxS; split <;> simp
        refine ⟨?_, ?_, pr.2⟩
        · rcases m1 with q | q <;> simp only [q] <;> assumption
        · rcases m2 with q | q <;> simp only [q] <;> assumption
  · exact h
theorem tstep_dok {b : Nat} {x : DS × List Spot × List (Spot × Spot)} (h : DOk b x.1) : DOk (b + 2) (tstep x).1 := by
  unfold tstep
  split
  · exact dig_ok (dig_ok h)
  · exact h.mono (by omega)
theorem tstep_len (x : DS × List Spot × List (Spot × Spot)) : (tstep x).2.2.length ≤ x.2.2.length + 1 := by
  unfold tstep
  split
  · simp [tDo]
  · omega
theorem titer_ok {cs : List Nat} {b : Nat} {x : DS × List Spot × List (Spot × Spot)} (h : TOk cs x) (hb : DOk b x.1) (h0 : x.2.2 = []) : ∀ n, TOk cs (titer x n) ∧ DOk (b + 2 * n) (titer x n).1 ∧ (titer x n).2.2.length ≤ n
  | 0 => ⟨h, hb, by simp [titer, h0]⟩
  | n + 1 => by
    obtain ⟨h1, h2, h3⟩ := titer_ok h hb h0 n
    refine ⟨tstep_ok h1, (tstep_dok h2).mono (by omega), ?_⟩
    have := tstep_len (titer x n)
    show (tstep (titer x n)).2.2.length ≤ n + 1
    omega
theorem spots_mem {cs : List Nat} {s : Spot} : s ∈ (spotsL cs).flatten ↔ SpOk cs s := by
  unfold spotsL SpOk
  simp only [List.mem_flatten, List.mem_map, List.mem_range]
  constructor
  · rintro ⟨l, ⟨w, hw, rfl⟩, hs⟩
    obtain ⟨p, hp, rfl⟩ := List.mem_map.mp hs
    rw [List.mem_range] at hp
    refine ⟨cs[w], by simp [hw], ?_⟩
    simpa [hw] using hp
  · rintro ⟨c, hc, hp⟩
    have hw := (List.getElem?_eq_some_iff.mp hc).1
    refine ⟨_, ⟨s.1, hw, rfl⟩, List.mem_map.mpr ⟨s.2, ?_, rfl⟩⟩
    rw [List.mem_range, List.getD_eq_getElem?_getD, hc]; exact hp
theorem spots_nd (cs : List Nat) : (spotsL cs).flatten.Nodup := by
  unfold spotsL List.Nodup
  rw [List.pairwise_flatten]
  refine ⟨fun l hl => ?_, ?_⟩
  · obtain ⟨w, _, rfl⟩ := List.mem_map.mp hl
    rw [List.pairwise_map]
    exact (List.nodup_range (n := _)).imp fun h e => h (congrArg Prod.snd e)
  · rw [List.pairwise_map]
    refine (List.nodup_range (n := _)).imp fun h x hx y hy e => ?_
    obtain ⟨p, _, rfl⟩ := List.mem_map.mp hx
    obtain ⟨q, _, rfl⟩ := List.mem_map.mp hy
    exact h (congrArg Prod.fst e)
/-! sorted -/
theorem pLt_trans {a b c : Spot × Spot} (h : pLt a b) (h' : pLt b c) : pLt a c := by
  unfold pLt at *
  rcases h with h | ⟨h1, h2⟩
  · rcases h' with h' | ⟨h3, h4⟩
    · exact .inl (sLt_trans h h')
    · rw [← h3]; exact .inl h
  · rcases h' with h' | ⟨h3, h4⟩
    · rw [h1]; exact .inl h'
    · exact .inr ⟨h1.trans h3, sLt_trans h2 h4⟩
theorem pLt_tri {a b : Spot × Spot} (h : a ≠ b) : pLt a b ∨ pLt b a := by
  unfold pLt
  by_cases h1 : a.1 = b.1
  · have h2 : a.2 ≠ b.2 := fun e => h (Prod.ext h1 e)
    rcases sLt_tri h2 with q | q
    · exact .inl (.inr ⟨h1, q⟩)
    · exact .inr (.inr ⟨h1.symm, q⟩)
  · rcases sLt_tri h1 with q | q
    · exact .inl (.inl q)
    · exact .inr (.inl q)
theorem sLt_irrefl (a : Spot) : ¬ sLt a a := by unfold sLt; omega
theorem pLt_irrefl (a : Spot × Spot) : ¬ pLt a a := by
  unfold pLt
  rintro (h | ⟨_, h⟩)
  · exact sLt_irrefl _ h
  · exact sLt_irrefl _ h
theorem le_trans' (a b c : Spot × Spot) (h : (!decide (pLt b a)) = true) (h' : (!decide (pLt c b)) = true) : (!decide (pLt c a)) = true := by
  simp only [Bool.not_eq_true', decide_eq_false_iff_not] at *
  intro q
  by_cases e : a = b
  · subst e; exact h' q
  · rcases pLt_tri e with z | z
    · exact h' (pLt_trans q z)
    · exact h z
theorem sortP_ok {ps : List (Spot × Spot)} (nd : (tSpots ps).Nodup) : (sortP ps).Perm ps ∧ (sortP ps).Pairwise pLt := by
  have hp : (sortP ps).Perm ps := List.mergeSort_perm _ _
  refine ⟨hp, ?_⟩
  have hs : (sortP ps).Pairwise fun a b => (!decide (pLt b a)) = true := List.pairwise_mergeSort (le := fun a b => !decide (pLt b a)) (fun a b c h h' => le_trans' a b c h h') (fun a b => by
    simp only [Bool.or_eq_true, Bool.not_eq_true', decide_eq_false_iff_not]
    by_cases q : pLt b a
    · right; intro z; exact pLt_irrefl _ (pLt_trans q z)
    · exact .inl q) ps
  have hn : ps.Nodup := by
    unfold tSpots at nd
    unfold List.Nodup at nd ⊢
    rw [List.flatMap_def, List.pairwise_flatten] at nd
    have := nd.2
    rw [List.pairwise_map] at this
    exact this.imp fun {a b} h e => by subst e; exact h a.1 (by simp) a.1 (by simp) rfl
  have hn' : (sortP ps).Nodup := hp.nodup_iff.mpr hn
  refine List.Pairwise.imp₂ (fun a b h1 h2 => ?_) hs hn'
  simp only [Bool.not_eq_true', decide_eq_false_iff_not] at h1
  rcases pLt_tri h2 with z | z
  · exact z
  · exact absurd z h1
theorem tSpots_perm {ps qs : List (Spot × Spot)} (h : ps.Perm qs) : (tSpots ps).Perm (tSpots qs) := h.flatMap_right _
/-- a machine that the law draws -/
theorem lm_ok {st : DS} {b : Nat} (h : DOk b st) : DOk (b + 25) (lmX st).1 ∧ MOk (lmX st).2 ∧ (lmX st).2.cs.sum ≤ 18 := by
  obtain ⟨h1, ⟨hp, hs⟩, h2, h3⟩ := lc_ok h
  have hdg := dig_lt (s := (lcX st).1) (n := 9) (by decide)
  have t0 : TOk (lcX st).2 (digS (lcX st).1 9, (spotsL (lcX st).2).flatten, []) := ⟨fun s hs => spots_mem.mp hs, by simpa [tSpots] using spots_nd _, by simp⟩
  obtain ⟨⟨_, nd, sp⟩, tb, tl⟩ := titer_ok t0 (b := b + 9) (dig_ok h1) rfl (digI (lcX st).1 9).toNat
  have ndf : (tSpots (ltX (lcX st).1 (lcX st).2).2.2).Nodup := (List.nodup_append.mp nd).1
  obtain ⟨pm, pw⟩ := sortP_ok ndf
  refine ⟨tb.mono (by omega), ⟨h2, by show (lcX st).2.length ≤ 16; omega, hp, by show (lcX st).2.sum ≤ 30; omega, ?_, fun p hp => sp p (pm.subset hp), fun i p q hi hj => ?_, (tSpots_perm pm).nodup_iff.mpr ndf⟩, hs⟩
  · show (sortP (ltX (lcX st).1 (lcX st).2).2.2).length ≤ 8
    rw [pm.length_eq]
    have : (ltX (lcX st).1 (lcX st).2).2.2.length ≤ (digI (lcX st).1 9).toNat := tl
    omega
  · have hj' := List.getElem?_eq_some_iff.mp hj
    have hi' := List.getElem?_eq_some_iff.mp hi
    obtain ⟨hj1, hj2⟩ := hj'
    obtain ⟨hi1, hi2⟩ := hi'
    have := List.pairwise_iff_getElem.mp pw i (i + 1) hi1 hj1 (by omega)
    have e1 : (sortP (ltX (lcX st).1 (lcX st).2).2.2)[i] = p := hi2
    have e2 : (sortP (ltX (lcX st).1 (lcX st).2).2.2)[i + 1] = q := hj2
    rw [← e1, ← e2]
    exact this
end Ewl

set_option maxRecDepth 100000
set_option maxHeartbeats 8000000
set_option exponentiation.threshold 10000
namespace Ewl
open PySem L2
theorem srt_map (ps : List (Spot × Spot)) : srtD (ps.map pD) = (sortP ps).map pD := by
  unfold srtD sortP
  symm
  apply List.map_mergeSort
  intro a _ b _
  rw [PySem.W.dataLe_eq]
  show _ = !PySem.W.dataLt (pD b) (pD a)
  rw [dataLt_p]
theorem alikeAll_s (a b : Spot) : PySem.W.AlikeAll [sD a, sD b] := by
  refine ⟨fun x hx y hy => ?_, fun x hx => ?_⟩
  · simp at hx hy
    rcases hx with rfl | rfl <;> rcases hy with rfl | rfl <;> exact alike_s _ _
  · simp at hx
    rcases hx with rfl | rfl <;> simp [sD]
theorem depthAll_s (a b : Spot) : PyData.depthAll [sD a, sD b] ≤ 8 := Nat.le_trans (sh_all (n := 1) fun d hd => by
  simp at hd
  rcases hd with rfl | rfl <;> exact sh_sD _).2 (by decide)
theorem flat_take {α : Type} {L : List (List α)} {i : Nat} {l : List α} (h : L[i]? = some l) : (L.take (i + 1)).flatten = (L.take i).flatten ++ l := by
  rw [take_more h, List.flatten_append]; simp
theorem titer_free (x : DS × List Spot × List (Spot × Spot)) : ∀ n, (titer x n).2.1.length ≤ x.2.1.length
  | 0 => Nat.le_refl _
  | n + 1 => by
    have := titer_free x n
    refine Nat.le_trans ?_ this
    show (tstep (titer x n)).2.1.length ≤ _
    unfold tstep
    split
    · unfold tDo
      simp only [List.length_eraseIdx]
      split <;> split <;> omega
    · exact Nat.le_refl _
theorem map_erase {α β : Type} (f : α → β) : ∀ (xs : List α) (n : Nat), (xs.map f).eraseIdx n = (xs.eraseIdx n).map f
  | [], _ => rfl
  | _ :: _, 0 => rfl
  | x :: xs, n + 1 => by simp [map_erase f xs n]
section
variable {P : Program} {w : World} {K : PySem.W.Frag} {mg : Str → Option Value} {base : Heap}
def gLTouches (kvs : List (Key × PyData)) (ds : List PyData) (kvs' : List (Key × PyData)) (z : PyData) : Prop :=
  ∃ (st : DS) (cs : List Nat) (b : Nat), DOk b st ∧ b ≤ 900000 ∧ COk cs ∧ cs.length ≤ 6 ∧ kvs = dsK st ∧ ds = [cD cs, .int 8] ∧ kvs' = dsK (ltX st cs).1 ∧ z = tD (sortP (ltX st cs).2.2)
theorem sc_ltouches : FnScope ["state", "wheels", "most", "free", "found", "wheel", "count", "j", "one", "far", "at"] ["state", "wheels", "most"] (defScope (top 53)) := ⟨rfl, rfl, rfl, by decide +kernel, rfl, by decide +kernel, by decide +kernel⟩
theorem ok_ltouches {f : Addr} {fd : FuncData} (F : Fun K "_law_touches" "_law_touches" (top 53) f fd) (T : Tx mg) (f1 : Fn P w K mg base "_law_digit" 2 (spS K gDigit)) : FnOk P w K mg base CX0 3 f fd ["state", "wheels", "most"] (spS K gLTouches) := by
  refine okS F sc_ltouches (fun kvs ds kvs' z ⟨_, _, _, _, _, _, _, _, e, _⟩ => by rw [e]; rfl) fun cdv A outer s H E hr p kvs ds kvs' z ⟨st, cs, b, hb, hb1, hC, hcl, e0, e1, e2, e3⟩ => ?_
  subst e0 e1 e2 e3
  have hdg := dig_lt (s := st) (n := 9) (by decide)
  have t0 : TOk cs (digS st 9, (spotsL cs).flatten, []) := ⟨fun s hs => spots_mem.mp hs, by simpa [tSpots] using spots_nd _, by simp⟩
  have hit := fun n => titer_ok t0 (b := b + 1) (dig_ok hb) rfl n
  have hfl : (spotsL cs).flatten.length ≤ 18 := by rw [spots_len]; exact hC.sum
  have hsl : (spotsL cs).length = cs.length := by simp [spotsL]
  refine ⟨[.dk (some p) (dsK (ltX st cs).1), .d (cD cs), .d (.int 8), .l ((ltX st cs).2.1.map sD), .d (.list ((ltX st cs).2.2.map pD)), .x, .x, .x, .x, .x, .x], rfl,
    sv_nx (st_parLL (i := 3) (j := 4) rfl rfl (by decide) (by simp) (by simp) sc_ltouches.nd)
    (sv_nx (St1.to (s2 := [.dk (some p) (dsK st), .d (cD cs), .d (.int 8), .l ((spotsL cs).flatten.map sD), .l [], .x, .x, .x, .x, .x, .x])
      (st_for (S := fun i => [.dk (some p) (dsK st), .d (cD cs), .d (.int 8), .l (((spotsL cs).take i).flatten.map sD), .l [], .x, .x, .x, .x, .x, .x]) (items := enumD 0 ((zs cs).map .int)) (ei_enumT (ea_cons (ev_var (i := 1) rfl rfl) ea_nil) T.enum) ?_) ?_)
    (sv_nx (St1.to (s2 := [.dk (some p) (dsK (ltX st cs).1), .d (cD cs), .d (.int 8), .l ((ltX st cs).2.1.map sD), .l ((ltX st cs).2.2.map pD), .x, .x, .x, .x, .x, .x])
      (st_for (S := fun i => [.dk (some p) (dsK (titer (digS st 9, (spotsL cs).flatten, []) i).1), .d (cD cs), .d (.int 8), .l ((titer (digS st 9, (spotsL cs).flatten, []) i).2.1.map sD), .l ((titer (digS st 9, (spotsL cs).flatten, []) i).2.2.map pD), .x, .x, .x, .x, .x, .x]) (items := rngD 0 (digI st 9).toNat)
        (ei_rng1 (j := digI st 9) (ea_cons (ev_callS (i := 0) f1 hr (ea_cons (ev_bin op_add (ev_var (i := 2) rfl rfl) ev_int rd_int) ea_nil) rfl ⟨_, _, rfl⟩ ⟨st, 9, b, hb, by omega, by decide, by decide, rfl, rfl, rfl, rfl⟩ rfl) ea_nil) T.range (by omega)) ?_) ?_)
    (sv_frz (i := 4) rfl (sv_ret (st_ret (Ev.to (ev_callTy call_tuple_of (ea_cons (EvL.ev (el_callB (cr_sortedD hr.u64) (ea_cons (ev_var (i := 4) rfl rfl) ea_nil) (rcl_sorted ?_ ?_ ?_) T.sorted)) ea_nil) rc_tupL T.tuple) ?_))))))⟩
  · intro i d hd
    obtain ⟨x, hx, rfl⟩ := enum_item hd
    obtain ⟨z, hz, rfl⟩ := map_get hx
    obtain ⟨c, hc, rfl⟩ := zs_get hz
    have hle := le_sum (List.mem_of_getElem? hc)
    have h18 := hC.sum
    have hsp : (spotsL cs)[i]? = some ((List.range c).map fun p => (i, p)) := by
      have hi := (List.getElem?_eq_some_iff.mp hc).1
      unfold spotsL
      rw [List.getElem?_map, List.getElem?_range hi, Option.map_some, List.getD_eq_getElem?_getD, hc]; rfl
    have hlen : (((spotsL cs).take i).flatten.map sD).length ≤ 18 := by
      have h1 : (spotsL cs).flatten.length = ((spotsL cs).take i).flatten.length + ((spotsL cs).drop i).flatten.length := by
        conv => lhs; rw [← List.take_append_drop i (spotsL cs)]
        rw [List.flatten_append, List.length_append]
      rw [List.length_map]
      omega
    refine ⟨_, _, tg_tup (tgs_cons (tg_name (i := 5) rfl (by simp) sc_ltouches.nd) (tgs_cons (tg_name (i := 6) rfl (by simp) sc_ltouches.nd) tgs_nil)),
      Sv.to (sv_nx (st_asgL (el_catO (i := 3) (xs := ((spotsL cs).take i).flatten.map sD) rfl rfl (el_lc (S := fun _ => [.dk (some p) (dsK st), .d (cD cs), .d (.int 8), .l (((spotsL cs).take i).flatten.map sD), .l [], .d (.int (i : Nat)), .d (.int (c : Nat)), .x, .x, .x, .x]) (ys := (List.range c).map fun p => sD (i, p)) (own := [("at", 10)])
        (ei_rng1 (j := c) (ea_cons (ev_var (i := 6) rfl rfl) ea_nil) T.range (by omega)) (blkOk_by (N := ["state", "wheels", "most", "free", "found", "wheel", "count", "j", "one", "far", "at"]) (sc := defScope (top 53)) (by decide +kernel)) rfl ?_ ?_ ?_ sc_ltouches.nd) rfl ?_) (i := 3) rfl (by simp) sc_ltouches.nd) (sv_drop 5 (sv_drop 6 sv_nil))) ?_⟩
    · simp [rngD_len]
    · simp [rngD_len]; omega
    · intro j d y hd hy
      obtain ⟨hj, rfl⟩ := rng_item hd
      have hj' : j < c := by omega
      have ey : y = sD (i, j) := by
        have : ((List.range c).map fun p => sD (i, p))[j]? = some (sD (i, j)) := by simp [hj']
        rw [this] at hy; exact (Option.some.inj hy).symm
      subst ey
      refine ⟨_, [10], _, fun j hj => hj, ?_, fun s' H' C cl fp => ⟨tg_name (i := 10) rfl (by simp) sc_ltouches.nd, Ev.to (ev_tup (ea_cons (ev_var (i := 5) rfl rfl) (ea_cons (ev_var (i := 10) rfl rfl) ea_nil))) ?_⟩⟩
      · rfl
      · simp [sD]
    · have : ((List.range c).map fun p => sD (i, p)).length = c := by simp
      omega
    · rw [flat_take hsp, List.map_append, List.map_map]; rfl
  · rw [List.take_of_length_le (by simp [enumD_len, zs_len, hsl])]
  · intro i d hd
    obtain ⟨hi, rfl⟩ := rng_item hd
    obtain ⟨_, hD, hL⟩ := hit i
    have hF := titer_free (digS st 9, (spotsL cs).flatten, []) i
    show ∃ m ts, Tg _ _ _ _ m ts ∧ Sv _ _ m (.nx [.dk (some p) (dsK (tstep (titer (digS st 9, (spotsL cs).flatten, []) i)).1), .d (cD cs), .d (.int 8), .l ((tstep (titer (digS st 9, (spotsL cs).flatten, []) i)).2.1.map sD), .l ((tstep (titer (digS st 9, (spotsL cs).flatten, []) i)).2.2.map pD), .x, .x, .x, .x, .x, .x])
    have hF2 : (digS st 9, (spotsL cs).flatten, ([] : List (Spot × Spot))).2.1.length ≤ 18 := hfl
    generalize titer (digS st 9, (spotsL cs).flatten, []) i = x at *
    obtain ⟨s, free, found⟩ := x
    simp only at hF hF2 hD hL
    have hf18 : free.length ≤ 18 := by omega
    by_cases hl : 1 < free.length
    · have hstep : tstep (s, free, found) = tDo (s, free, found) := if_pos hl
      rw [hstep]
      unfold tDo
      simp only
      have hd := dig_lt (s := s) (n := (free.length : Nat)) (by omega)
      generalize hk : (digI s (free.length : Nat)).toNat = k1
      have hk1 : k1 < free.length := by omega
      have hD1 := dig_ok (n := (free.length : Nat)) hD
      have ek1 : digI s (free.length : Nat) = (k1 : Nat) := by omega
      have e1 : free[k1]? = some (free.getD k1 (0, 0)) := by simp [hk1]
      have l1 : (free.eraseIdx k1).length = free.length - 1 := by rw [List.length_eraseIdx]; simp [hk1]
      have hd2 := dig_lt (s := digS s (free.length : Nat)) (n := ((free.eraseIdx k1).length : Nat)) (by omega)
      generalize hk' : (digI (digS s (free.length : Nat)) ((free.eraseIdx k1).length : Nat)).toNat = k2
      have hk2 : k2 < (free.eraseIdx k1).length := by omega
      have ek2 : digI (digS s (free.length : Nat)) ((free.eraseIdx k1).length : Nat) = (k2 : Nat) := by omega
      have e2 : (free.eraseIdx k1)[k2]? = some ((free.eraseIdx k1).getD k2 (0, 0)) := by simp [hk2]
      generalize free.getD k1 (0, 0) = one at e1
      generalize (free.eraseIdx k1).getD k2 (0, 0) = far at e2
      have hm1 : (free.map sD)[k1]? = some (sD one) := by rw [List.getElem?_map, e1]; rfl
      have hm2 : ((free.map sD).eraseIdx k1)[k2]? = some (sD far) := by rw [map_erase, List.getElem?_map, e2]; rfl
      have n1 : (free.map sD).length = free.length := List.length_map ..
      have n2 : ((free.map sD).eraseIdx k1).length = (free.eraseIdx k1).length := by rw [map_erase, List.length_map]
      refine ⟨_, _, tg_name (i := 7) rfl (by simp) sc_ltouches.nd, Sv.to (sv_nx (st_ifT (EvT.to (et_cmp op_gt (ev_lenO (i := 3) (xs := free.map sD) rfl rfl T.len) ev_int rd_bool) (decide_eq_true (by rw [List.length_map]; omega)))
        (sv_nx (st_popAt (i := 3) (j := 8) (n := k1) (xs := free.map sD) rfl rfl (ev_callS (i := 0) f1 hr (ea_cons (ev_lenO (i := 3) (xs := free.map sD) rfl rfl T.len) ea_nil) rfl ⟨_, _, rfl⟩ ⟨s, (free.length : Nat), b + 1 + 2 * i, hD, ?_, ?_, ?_, rfl, ?_, rfl, rfl⟩ rfl) rfl ek1 ?_ ?_ hm1 rfl (by simp) sc_ltouches.nd)
        (sv_nx (st_popAt (i := 3) (j := 9) (n := k2) (xs := (free.map sD).eraseIdx k1) rfl rfl (ev_callS (i := 0) f1 hr (ea_cons (ev_lenO (i := 3) (xs := (free.map sD).eraseIdx k1) rfl rfl T.len) ea_nil) rfl ⟨_, _, rfl⟩ ⟨digS s (free.length : Nat), ((free.eraseIdx k1).length : Nat), b + 1 + 2 * i + 1, hD1, ?_, ?_, ?_, rfl, ?_, rfl, rfl⟩ rfl) rfl ek2 ?_ ?_ hm2 rfl (by simp) sc_ltouches.nd)
        (sv_nx (st_app (i := 4) (xs := found.map pD) (d := pD (minS one far, maxS one far)) rfl rfl (Ev.to (ev_tup (ea_cons (ev_callB (cr_min2D rfl hr.u64) (ea_cons (ev_var (i := 8) rfl rfl) (ea_cons (ev_var (i := 9) rfl rfl) ea_nil)) (rc_min2 (alikeAll_s one far) (depthAll_s one far)) T.min)
          (ea_cons (ev_callB (cr_max2D rfl hr.u64) (ea_cons (ev_var (i := 8) rfl rfl) (ea_cons (ev_var (i := 9) rfl rfl) ea_nil)) (rc_max2 (alikeAll_s one far) (depthAll_s one far)) T.max) ea_nil))) ?_) rfl ?_)
          sv_nil)))) (sv_drop 7 (sv_drop 8 (sv_drop 9 sv_nil)))) ?_⟩
      · omega
      · omega
      · omega
      · rw [n1]
      · omega
      · omega
      · omega
      · omega
      · omega
      · rw [n2]
      · omega
      · omega
      · unfold pD minS maxS
        simp only [dataLt_s, decide_eq_true_eq]
        congr 2
        · split <;> rfl
        · congr 1
          split <;> rfl
      · rw [List.length_map]; omega
      · rw [map_erase, map_erase, List.map_append]; rfl
    · have hstep : tstep (s, free, found) = (s, free, found) := if_neg hl
      rw [hstep]
      exact ⟨_, _, tg_name (i := 7) rfl (by simp) sc_ltouches.nd, Sv.to (sv_nx (st_ifF (EvT.to (et_cmp op_gt (ev_lenO (i := 3) (xs := free.map sD) rfl rfl T.len) ev_int rd_bool) (decide_eq_false (by rw [List.length_map]; omega))) sv_nil) (sv_drop 7 sv_nil)) rfl⟩
  · rw [rngD_len]; rfl
  · intro d hd d' hd'
    obtain ⟨a, _, rfl⟩ := List.mem_map.mp hd
    obtain ⟨a', _, rfl⟩ := List.mem_map.mp hd'
    exact alike_p _ _
  · left
    intro d hd
    obtain ⟨a, _, rfl⟩ := List.mem_map.mp hd
    exact ⟨_, _, rfl⟩
  · intro d hd
    obtain ⟨a, _, rfl⟩ := List.mem_map.mp hd
    have := (sh_pD a).2
    omega
  · rw [srt_map]; rfl
end
end Ewl

set_option maxRecDepth 100000
set_option maxHeartbeats 8000000
set_option exponentiation.threshold 10000
namespace Ewl
open PySem L2
/-! Euclid -/
def euc (a b : Nat) : Nat → Nat × Nat
  | 0 => (a, b)
  | n + 1 => ((euc a b n).2, (euc a b n).1 % (euc a b n).2)
theorem euc_shift (a b : Nat) : ∀ n, euc a b (n + 1) = euc b (a % b) n
  | 0 => rfl
  | n + 1 => by
    have := euc_shift a b n
    show ((euc a b (n + 1)).2, (euc a b (n + 1)).1 % (euc a b (n + 1)).2) = _
    rw [this]; rfl
theorem euc_end : ∀ b a : Nat, ∃ n, (∀ i, i < n → (euc a b i).2 ≠ 0) ∧ euc a b n = (Nat.gcd a b, 0) := by
  intro b
  induction b using Nat.strongRecOn with
  | ind b ih =>
    intro a
    by_cases hb : b = 0
    · subst hb; exact ⟨0, fun i hi => absurd hi (Nat.not_lt_zero i), by simp [euc]⟩
    · obtain ⟨n, h1, h2⟩ := ih (a % b) (Nat.mod_lt _ (by omega)) b
      refine ⟨n + 1, fun i hi => ?_, ?_⟩
      · cases i with
        | zero => exact hb
        | succ i => rw [euc_shift]; exact h1 i (by omega)
      · rw [euc_shift, h2, Nat.gcd_comm a b, Nat.gcd_rec b a, Nat.gcd_comm]
section
variable {P : Program} {w : World} {K : PySem.W.Frag} {mg : Str → Option Value} {base : Heap}
def gLMachine (kvs : List (Key × PyData)) (ds : List PyData) (kvs' : List (Key × PyData)) (z : PyData) : Prop :=
  ∃ (st : DS) (b : Nat), DOk b st ∧ b ≤ 800000 ∧ kvs = dsK st ∧ ds = [.int 18] ∧ kvs' = dsK (lmX st).1 ∧ z = mD (lmX st).2
theorem sc_lmachine : FnScope ["state", "most", "wheels"] ["state", "most"] (defScope (top 54)) := ⟨rfl, rfl, rfl, by decide +kernel, rfl, by decide +kernel, by decide +kernel⟩
theorem ok_lmachine {f : Addr} {fd : FuncData} (F : Fun K "_law_machine" "_law_machine" (top 54) f fd) (T : Tx mg) (f1 : Fn P w K mg base "_law_counts" 3 (spS K gLCounts)) (f2 : Fn P w K mg base "_law_touches" 3 (spS K gLTouches)) : FnOk P w K mg base CX0 4 f fd ["state", "most"] (spS K gLMachine) := by
  refine okS F sc_lmachine (fun kvs ds kvs' z ⟨_, _, _, _, _, e, _⟩ => by rw [e]; rfl) fun cdv A outer s H E hr p kvs ds kvs' z ⟨st, b, hb, hb1, e0, e1, e2, e3⟩ => ?_
  subst e0 e1 e2 e3
  obtain ⟨h1, h2, h3, h4⟩ := lc_ok hb
  exact ⟨[.dk (some p) (dsK (lmX st).1), .d (.int 18), .d (cD (lcX st).2)], rfl,
    sv_nx (st_asg (ev_callS (i := 0) f1 hr (ea_cons (ev_var (i := 1) rfl rfl) ea_nil) rfl ⟨_, _, rfl⟩ ⟨st, b, hb, by omega, rfl, rfl, rfl, rfl⟩ rfl) (i := 2) rfl (by simp) sc_lmachine.nd)
    (sv_ret (st_ret (ev_tup (ea_cons (ev_var (i := 2) rfl rfl) (ea_cons (ev_callS (i := 0) f2 hr (ea_cons (ev_var (i := 2) rfl rfl) (ea_cons ev_int ea_nil)) rfl ⟨_, _, rfl⟩ ⟨(lcX st).1, (lcX st).2, b + 8, h1, by omega, h2, h4, rfl, rfl, rfl, rfl⟩ rfl) ea_nil)))))⟩
theorem sc_llow : FnScope ["top", "bottom", "one", "other"] ["top", "bottom"] (defScope (top 55)) := ⟨rfl, rfl, rfl, by decide +kernel, rfl, by decide +kernel, by decide +kernel⟩
theorem ok_llow {f : Addr} {fd : FuncData} (F : Fun K "_law_lowest" "_law_lowest" (top 55) f fd) (T : Tx mg) : FnOk P w K mg base CX0 1 f fd ["top", "bottom"] (spD K gLow) := by
  refine okD F sc_llow (fun ds z ⟨t, b, _, _, e, _⟩ => by rw [e]; rfl) fun cdv A outer s H E hr ds z ⟨t, b, h, hz, e1, e2⟩ => ?_
  subst e1 e2
  obtain ⟨n, hn, he⟩ := euc_end b.natAbs t.natAbs
  have hd : CDivW t ((Nat.gcd t.natAbs b.natAbs : Nat) : Int) := wide_div (gcd_le h).1 (b := 8000) (by rw [Int.natAbs_natCast]; exact Nat.lt_of_le_of_lt (gcd_le h).2 hz) (by decide) (by decide)
  have hd' : CDivW b ((Nat.gcd t.natAbs b.natAbs : Nat) : Int) := hd
  refine ⟨_, sv_nx (St1.to (s2 := [.d (.int t), .d (.int b), .d (.int ((euc t.natAbs b.natAbs 0).1 : Nat)), .d (.int ((euc t.natAbs b.natAbs 0).2 : Nat))]) (st_par (i := 2) (j := 3) (ea_cons (ev_callB call_abs (ea_cons (ev_var (i := 0) rfl rfl) ea_nil) rc_abs T.abs) (ea_cons (ev_var (i := 1) rfl rfl) ea_nil)) rfl rfl (by decide) (by simp) (by simp) sc_llow.nd) ?_)
    (sv_nx (st_while (S := fun i => [.d (.int t), .d (.int b), .d (.int ((euc t.natAbs b.natAbs i).1 : Nat)), .d (.int ((euc t.natAbs b.natAbs i).2 : Nat))]) (M := fun i => [.d (.int t), .d (.int b), .d (.int ((euc t.natAbs b.natAbs i).1 : Nat)), .d (.int ((euc t.natAbs b.natAbs i).2 : Nat))]) (n := n) ?_
      (EvT.to (et_cmp (op_neD hr.u64) (ev_var (i := 3) rfl rfl) ev_int (rd_neD (sh_int _).shaped (sh_int _).shaped)) ?_))
    (sv_ret (st_ret (Ev.to (ev_tup (ea_cons (ev_bin op_fdivW (ev_var (i := 0) rfl rfl) (ev_var (i := 2) rfl rfl) (rd_intC ?_)) (ea_cons (ev_bin op_fdivW (ev_var (i := 1) rfl rfl) (ev_var (i := 2) rfl rfl) (rd_intC ?_)) ea_nil))) ?_))))⟩
  · have e1 : (if t < 0 then -t else t) = ((euc t.natAbs b.natAbs 0).1 : Nat) := by
      show _ = ((t.natAbs : Nat) : Int)
      split <;> omega
    have e2 : b = ((euc t.natAbs b.natAbs 0).2 : Nat) := by
      show _ = ((b.natAbs : Nat) : Int)
      omega
    rw [e1, ← e2]; rfl
  · intro i hi
    have h0 := hn i hi
    have hp : (0 : Int) < ((euc t.natAbs b.natAbs i).2 : Nat) := by omega
    refine ⟨EvT.to (et_cmp (op_neD hr.u64) (ev_var (i := 3) rfl rfl) ev_int (rd_neD (sh_int _).shaped (sh_int _).shaped)) ?_,
      Sv.to (sv_one (st_par (i := 2) (j := 3) (ea_cons (ev_var (i := 3) rfl rfl) (ea_cons (ev_bin op_mod (ev_var (i := 2) rfl rfl) (ev_var (i := 3) rfl rfl) (rd_intC hp)) ea_nil)) rfl rfl (by decide) (by simp) (by simp) sc_llow.nd)) ?_⟩
    · simp [PyData.eqv]; exact h0
    · show _ = [Sl.d (.int t), .d (.int b), .d (.int ((euc t.natAbs b.natAbs i).2 : Nat)), .d (.int (((euc t.natAbs b.natAbs i).1 % (euc t.natAbs b.natAbs i).2 : Nat) : Int))]
      rw [Int.natCast_emod]; rfl
  · rw [he]; simp [PyData.eqv]
  · rw [he]; exact hd
  · rw [he]; exact hd'
  · rw [he]; exact low_fD h
theorem sc_lplus : FnScope ["one", "other"] ["one", "other"] (defScope (top 56)) := ⟨rfl, rfl, rfl, by decide +kernel, rfl, by decide +kernel, by decide +kernel⟩
theorem ok_lplus {f : Addr} {fd : FuncData} (F : Fun K "_law_plus" "_law_plus" (top 56) f fd) (T : Tx mg) (f1 : Fn P w K mg base "_law_lowest" 1 (spD K gLow)) : FnOk P w K mg base CX0 2 f fd ["one", "other"] (spD K gPlus) := by
  refine okD F sc_lplus (fun ds z ⟨p, q, _, _, e, _⟩ => by rw [e]; rfl) fun cdv A outer s H E hr ds z ⟨p, q, h1, h2, e1, e2⟩ => ?_
  subst e1 e2
  exact ⟨_, sv_ret (st_ret (ev_call f1 hr (ea_cons (ev_bin op_add (ev_bin op_mulW (ev_ix ix_tup (ev_var (i := 0) rfl rfl) ev_int (rd_ixT rfl)) (ev_ix ix_tup (ev_var (i := 1) rfl rfl) ev_int (rd_ixT rfl)) (rd_intC (wide_mul h1.1 (den_sz h2) (by decide) (by decide) (by decide))))
      (ev_bin op_mulW (ev_ix ix_tup (ev_var (i := 1) rfl rfl) ev_int (rd_ixT rfl)) (ev_ix ix_tup (ev_var (i := 0) rfl rfl) ev_int (rd_ixT rfl)) (rd_intC (wide_mul h2.1 (den_sz h1) (by decide) (by decide) (by decide)))) rd_int)
    (ea_cons (ev_bin op_mulW (ev_ix ix_tup (ev_var (i := 0) rfl rfl) ev_int (rd_ixT rfl)) (ev_ix ix_tup (ev_var (i := 1) rfl rfl) ev_int (rd_ixT rfl)) (rd_intC (wide_mul (den_sz h1) (den_sz h2) (by decide) (by decide) (by decide)))) ea_nil))
    ⟨_, _, mul_pos' p q, low_sz h1 h2, rfl, congrArg fD (divInt_plus p q).symm⟩))⟩
end
end Ewl

set_option maxRecDepth 100000
set_option maxHeartbeats 8000000
set_option exponentiation.threshold 10000
namespace Ewl
open PySem L2
/-! a load drawn -/
def rowIt (span : Int) (s : DS) : Nat → DS × List (Int × Int)
  | 0 => (s, [])
  | n + 1 => (digS (digS (rowIt span s n).1 (2 * span + 1)) 3, (rowIt span s n).2 ++ [(digI (rowIt span s n).1 (2 * span + 1) - span, 1 + digI (digS (rowIt span s n).1 (2 * span + 1)) 3)])
def rowQ (ps : List (Int × Int)) : List Rat := ps.map fun p => Rat.divInt p.1 p.2
def loadIt (span : Int) (cs : List Nat) (s : DS) : Nat → DS × List (List Rat)
  | 0 => (s, [])
  | n + 1 => ((rowIt span (loadIt span cs s n).1 (cs.getD n 0)).1, (loadIt span cs s n).2 ++ [rowQ (rowIt span (loadIt span cs s n).1 (cs.getD n 0)).2])
def llX (span : Int) (cs : List Nat) (s : DS) : DS × List (List Rat) := loadIt span cs s cs.length
def pairD (p : Int × Int) : PyData := .tuple [.int p.1, .int p.2]
theorem row_len (span : Int) (s : DS) : ∀ n, (rowIt span s n).2.length = n
  | 0 => rfl
  | n + 1 => by simp [rowIt, row_len span s n]
theorem row_get (span : Int) (s : DS) {i : Nat} : ∀ n, i < n → (rowIt span s n).2[i]? = some (digI (rowIt span s i).1 (2 * span + 1) - span, 1 + digI (digS (rowIt span s i).1 (2 * span + 1)) 3)
  | 0, h => by omega
  | n + 1, h => by
    show ((rowIt span s n).2 ++ [_])[i]? = _
    by_cases e : i = n
    · subst e
      rw [List.getElem?_append_right (by rw [row_len]; exact Nat.le_refl _), row_len, Nat.sub_self]; rfl
    · rw [List.getElem?_append_left (by rw [row_len]; omega)]
      exact row_get span s n (by omega)
theorem row_dok {b : Nat} {span : Int} {s : DS} (h : DOk b s) : ∀ n, DOk (b + 2 * n) (rowIt span s n).1
  | 0 => h
  | n + 1 => (dig_ok (dig_ok (row_dok h n))).mono (by omega)
theorem row_in {span : Int} {s : DS} (hs : 0 ≤ span) : ∀ n, ∀ p ∈ (rowIt span s n).2, -span ≤ p.1 ∧ p.1 ≤ span ∧ 1 ≤ p.2 ∧ p.2 ≤ 3
  | 0, p, hp => by simp [rowIt] at hp
  | n + 1, p, hp => by
    rcases List.mem_append.mp hp with z | z
    · exact row_in hs n p z
    · rw [List.mem_singleton.mp z]
      have h1 := dig_lt (s := (rowIt span s n).1) (n := 2 * span + 1) (by omega)
      have h2 := dig_lt (s := digS (rowIt span s n).1 (2 * span + 1)) (n := 3) (by decide)
      simp only
      omega
theorem load_ok {span : Int} {cs : List Nat} {s : DS} : ∀ n, n ≤ cs.length → LOk (cs.take n) (loadIt span cs s n).2
  | 0, _ => by simp [LOk, loadIt]
  | n + 1, h => by
    have ih := load_ok (span := span) (cs := cs) (s := s) n (by omega)
    have hc : cs[n]? = some (cs.getD n 0) := by
      have : n < cs.length := by omega
      simp [this]
    unfold LOk at *
    rw [take_more hc]
    show List.map List.length ((loadIt span cs s n).2 ++ [rowQ (rowIt span (loadIt span cs s n).1 (cs.getD n 0)).2]) = _
    rw [List.map_append, ih]
    simp [rowQ, row_len]
theorem load_dok {b : Nat} {span : Int} {cs : List Nat} {s : DS} (h : DOk b s) : ∀ n, n ≤ cs.length → DOk (b + 2 * (cs.take n).sum) (loadIt span cs s n).1
  | 0, _ => by simpa [loadIt] using h
  | n + 1, hn => by
    have ih := load_dok (span := span) (cs := cs) h n (by omega)
    have hc : cs[n]? = some (cs.getD n 0) := by
      have : n < cs.length := by omega
      simp [this]
    rw [take_more hc, List.sum_append]
    refine (row_dok ih (cs.getD n 0)).mono ?_
    simp
    omega
def BdL (d n : Nat) (L : List (List Rat)) : Prop := ∀ r ∈ L, ∀ q ∈ r, Bd d n q
theorem BdL.sz {d n k : Nat} {L : List (List Rat)} (h : BdL d n L) (h1 : n * d < 2 ^ k) (h2 : d < 2 ^ k) : SzL k L := fun r hr q hq => (h r hr q hq).sz h1 h2
theorem cell_bd {t b : Int} {n : Nat} (h1 : -(n : Int) ≤ t) (h2 : t ≤ n) (h3 : 1 ≤ b) (h4 : b ≤ 3) : Bd 6 n (Rat.divInt t b) := by
  have hb : b = 1 ∨ b = 2 ∨ b = 3 := by omega
  rcases hb with rfl | rfl | rfl
  · exact ⟨by decide, t * 6, by rw [show (1 : Int) = ((1 : Nat) : Int) from rfl, Rat.divInt_ofNat, Rat.mkRat_eq_iff (by decide) (by decide)]; push_cast; omega, by omega⟩
  · exact ⟨by decide, t * 3, by rw [show (2 : Int) = ((2 : Nat) : Int) from rfl, Rat.divInt_ofNat, Rat.mkRat_eq_iff (by decide) (by decide)]; push_cast; omega, by omega⟩
  · exact ⟨by decide, t * 2, by rw [show (3 : Int) = ((3 : Nat) : Int) from rfl, Rat.divInt_ofNat, Rat.mkRat_eq_iff (by decide) (by decide)]; push_cast; omega, by omega⟩
theorem load_bd {span : Int} {m : Nat} (hs : span = (m : Nat)) {cs : List Nat} {s : DS} : ∀ n, BdL 6 m (loadIt span cs s n).2
  | 0 => fun r hr => by simp [loadIt] at hr
  | n + 1 => fun r hr q hq => by
    rcases List.mem_append.mp hr with z | z
    · exact load_bd hs n r z q hq
    · rw [List.mem_singleton.mp z] at hq
      obtain ⟨p, hp, rfl⟩ := List.mem_map.mp hq
      have := row_in (span := span) (by omega) _ p hp
      exact cell_bd (by omega) (by omega) this.2.2.1 this.2.2.2
section
variable {P : Program} {w : World} {K : PySem.W.Frag} {mg : Str → Option Value} {base : Heap}
def gLLoad (kvs : List (Key × PyData)) (ds : List PyData) (kvs' : List (Key × PyData)) (z : PyData) : Prop :=
  ∃ (st : DS) (cs : List Nat) (span : Int) (b : Nat), DOk b st ∧ b ≤ 900000 ∧ cs.sum ≤ 30 ∧ cs.length ≤ 16 ∧ 0 ≤ span ∧ span ≤ 1000 ∧ kvs = dsK st ∧ ds = [cD cs, .int span] ∧ kvs' = dsK (llX span cs st).1 ∧ z = lD (llX span cs st).2
theorem sc_lload : FnScope ["state", "wheels", "span", "found", "count", "some", "j", "top", "bottom"] ["state", "wheels", "span"] (defScope (top 57)) := ⟨rfl, rfl, rfl, by decide +kernel, rfl, by decide +kernel, by decide +kernel⟩
theorem ok_lload {f : Addr} {fd : FuncData} (F : Fun K "_law_load" "_law_load" (top 57) f fd) (T : Tx mg) (f1 : Fn P w K mg base "_law_digit" 2 (spS K gDigit)) (f2 : Fn P w K mg base "_law_lowest" 1 (spD K gLow)) : FnOk P w K mg base CX0 3 f fd ["state", "wheels", "span"] (spS K gLLoad) := by
  refine okS F sc_lload (fun kvs ds kvs' z ⟨_, _, _, _, _, _, _, _, _, _, _, e, _⟩ => by rw [e]; rfl) fun cdv A outer s H E hr p kvs ds kvs' z ⟨st, cs, span, b, hb, hb1, hC, hcl, hs0, hs1, e0, e1, e2, e3⟩ => ?_
  subst e0 e1 e2 e3
  refine ⟨[.dk (some p) (dsK (llX span cs st).1), .d (cD cs), .d (.int span), .d (.list ((llX span cs st).2.map rowD)), .x, .x, .x, .x, .x], rfl,
    sv_nx (st_asgL (el_lst ea_nil) (i := 3) rfl (by simp) sc_lload.nd)
    (sv_nx (St1.to (s2 := [.dk (some p) (dsK (llX span cs st).1), .d (cD cs), .d (.int span), .l ((llX span cs st).2.map rowD), .x, .x, .x, .x, .x]) (st_for (S := fun i => [.dk (some p) (dsK (loadIt span cs st i).1), .d (cD cs), .d (.int span), .l ((loadIt span cs st i).2.map rowD), .x, .x, .x, .x, .x]) (items := (zs cs).map .int) (ei_tup (ev_var (i := 1) rfl rfl)) ?_) ?_)
    (sv_frz (i := 3) rfl (sv_ret (st_ret (ev_callTy call_tuple_of (ea_cons (ev_var (i := 3) rfl rfl) ea_nil) rc_tupL T.tuple)))))⟩
  · intro i d hd
    obtain ⟨z, hz, rfl⟩ := map_get hd
    obtain ⟨c, hc, rfl⟩ := zs_get hz
    have hi := (List.getElem?_eq_some_iff.mp hc).1
    have ec : cs.getD i 0 = c := by rw [List.getD_eq_getElem?_getD, hc]; rfl
    have hle := le_sum (List.mem_of_getElem? hc)
    have hsum : (cs.take i).sum ≤ cs.sum := by
      conv => rhs; rw [← List.take_append_drop i cs]
      rw [List.sum_append]; omega
    have hD := load_dok (span := span) (cs := cs) hb i (by omega)
    have hLl : (loadIt span cs st i).2.length = i := by
      have := (load_ok (span := span) (cs := cs) (s := st) i (by omega)).len
      rw [this, List.length_take]; omega
    show ∃ m ts, Tg _ _ _ _ m ts ∧ Sv _ _ m (.nx [.dk (some p) (dsK (rowIt span (loadIt span cs st i).1 (cs.getD i 0)).1), .d (cD cs), .d (.int span), .l (((loadIt span cs st i).2 ++ [rowQ (rowIt span (loadIt span cs st i).1 (cs.getD i 0)).2]).map rowD), .x, .x, .x, .x, .x])
    rw [ec]
    generalize loadIt span cs st i = x at *
    obtain ⟨s1, L⟩ := x
    simp only at hD hLl
    have hrow := row_in (span := span) (s := s1) hs0 c
    have hrl := row_len span s1 c
    have hrd := fun n => row_dok (span := span) hD n
    refine ⟨_, _, tg_name (i := 4) rfl (by simp) sc_lload.nd,
      Sv.to (sv_nx (st_lc (S := fun n => [.dk (some p) (dsK (rowIt span s1 n).1), .d (cD cs), .d (.int span), .l (L.map rowD), .d (.int (c : Nat)), .x, .x, .x, .x]) (ys := (rowIt span s1 c).2.map pairD) (own := [("j", 6)]) (j := 5) (ei_rng1 (j := c) (ea_cons (ev_var (i := 4) rfl rfl) ea_nil) T.range (by omega)) (blkOk_by (N := ["state", "wheels", "span", "found", "count", "some", "j", "top", "bottom"]) (sc := defScope (top 57)) (by decide +kernel)) rfl ?_ ?_ ?_ sc_lload.nd rfl (by simp))
      (sv_frz (i := 5) rfl (sv_nx (st_app (i := 3) (xs := L.map rowD) (d := rowD (rowQ (rowIt span s1 c).2)) rfl rfl (Ev.to (ev_callTy call_tuple_of (ea_cons (EvL.ev (el_lc (S := fun _ => [.dk (some p) (dsK (rowIt span s1 c).1), .d (cD cs), .d (.int span), .l (L.map rowD), .d (.int (c : Nat)), .d (.list ((rowIt span s1 c).2.map pairD)), .x, .x, .x]) (ys := (rowQ (rowIt span s1 c).2).map fD) (own := [("top", 7), ("bottom", 8)])
        (ei_list (ds := (rowIt span s1 c).2.map pairD) (ev_var (i := 5) rfl rfl)) (blkOk_by (N := ["state", "wheels", "span", "found", "count", "some", "j", "top", "bottom"]) (sc := defScope (top 57)) (by decide +kernel)) ?_ ?_ ?_ ?_ sc_lload.nd)) ea_nil) rc_tupL T.tuple) rfl) rfl ?_) (sv_drop 4 (sv_drop 5 sv_nil))))) ?_⟩
    · simp [hrl, rngD_len]
    · simp [rngD_len]; omega
    · intro j d y hd hy
      obtain ⟨hj, rfl⟩ := rng_item hd
      have hj' : j < c := by omega
      have ey : y = pairD (digI (rowIt span s1 j).1 (2 * span + 1) - span, 1 + digI (digS (rowIt span s1 j).1 (2 * span + 1)) 3) := by
        rw [List.getElem?_map, row_get span s1 c hj'] at hy; exact (Option.some.inj hy).symm
      subst ey
      have hDj := hrd j
      refine ⟨_, [6], _, fun j hj => hj, ?_, fun s' H' C cl fp => ⟨tg_name (i := 6) rfl (by simp) sc_lload.nd,
        ev_tup (ea_cons (ev_bin op_sub (ev_callS (i := 0) f1 hr (ea_cons (ev_bin op_add (ev_bin op_mul ev_int (ev_var (i := 2) rfl rfl) (rd_intC (Or.inl (by omega)))) ev_int rd_int) ea_nil) rfl ⟨_, _, rfl⟩ ⟨_, _, b + 2 * (cs.take i).sum + 2 * j, hDj, by omega, by omega, by omega, rfl, rfl, rfl, rfl⟩ rfl) (ev_var (i := 2) rfl rfl) rd_int)
          (ea_cons (ev_bin op_add ev_int (ev_callS (i := 0) f1 hr (ea_cons ev_int ea_nil) rfl ⟨_, _, rfl⟩ ⟨_, _, b + 2 * (cs.take i).sum + 2 * j + 1, dig_ok hDj, by omega, by omega, by omega, rfl, rfl, rfl, rfl⟩ rfl) rd_int) ea_nil))⟩⟩
      rfl
    · rw [rngD_len]; rfl
    · simp [rowQ]
    · simp [hrl]; omega
    · intro j d y hd hy
      obtain ⟨q, hq, rfl⟩ := map_get hd
      have ey : y = fD (Rat.divInt q.1 q.2) := by
        have : ((rowQ (rowIt span s1 c).2).map fD)[j]? = some (fD (Rat.divInt q.1 q.2)) := by simp [rowQ, hq]
        rw [this] at hy; exact (Option.some.inj hy).symm
      subst ey
      have hq4 := hrow q (List.mem_of_getElem? hq)
      refine ⟨_, [7, 8], _, fun j hj => hj, ?_, fun s' H' C cl fp => ⟨tg_tup (tgs_cons (tg_name (i := 7) rfl (by simp) sc_lload.nd) (tgs_cons (tg_name (i := 8) rfl (by simp) sc_lload.nd) tgs_nil)),
        ev_call f2 (hr.mono (by decide)) (ea_cons (ev_var (i := 7) rfl rfl) (ea_cons (ev_var (i := 8) rfl rfl) ea_nil)) ⟨q.1, q.2, by omega, ?_, rfl, rfl⟩⟩⟩
      · rfl
      · exact Nat.lt_of_lt_of_le (show q.2.natAbs < 2 ^ 2 by omega) (Nat.pow_le_pow_right (by decide) (by decide))
    · rw [List.length_map]; omega
    · rw [List.map_append]; rfl
  · simp [zs_len, llX]
end
end Ewl

set_option maxRecDepth 100000
set_option maxHeartbeats 8000000
set_option exponentiation.threshold 10000
namespace Ewl
open PySem L2
theorem EvI.to {X : Cx} {tg it : Expr} {s0 s1 s2 : List Sl} {ds : List PyData} (h : EvI X tg it s0 s1 ds) (e : s1 = s2) : EvI X tg it s0 s2 ds := e ▸ h
section
variable {P : Program} {w : World} {K : PySem.W.Frag} {mg : Str → Option Value} {base : Heap}
theorem sc_lread : FnScope ["machine", "load", "found", "wheel", "at", "other", "spot", "both"] ["machine", "load"] (defScope (top 58)) := ⟨rfl, rfl, rfl, by decide +kernel, rfl, by decide +kernel, by decide +kernel⟩
theorem ok_lread {f : Addr} {fd : FuncData} (F : Fun K "_law_read" "_law_read" (top 58) f fd) (T : Tx mg) (f1 : Fn P w K mg base "_law_plus" 2 (spD K gPlus)) (f2 : Fn P w K mg base "_law_lowest" 1 (spD K gLow)) : FnOk P w K mg base CX0 3 f fd ["machine", "load"] (spD K gRead_) := by
  refine okD F sc_lread (fun ds z ⟨_, _, _, _, _, e, _⟩ => by rw [e]; rfl) fun cdv A outer s H E hr ds z ⟨M, L, hM, hL, hz, e1, e2⟩ => ?_
  subst e1 e2
  refine ⟨_, sv_nx (st_asgL (el_lst ea_nil) (i := 2) rfl (by simp) sc_lread.nd)
    (sv_nx (St1.to (s2 := [.d (mD M), .d (lD L), .l ((readL M L).map fD), .x, .x, .x, .x, .x]) (st_for (S := fun i => [.d (mD M), .d (lD L), .l (((readL M L).take i).map fD), .x, .x, .x, .x, .x]) (items := M.ts.map pD) (ei_tup (ev_ix ix_tup (ev_var (i := 0) rfl rfl) ev_int (rd_ixT (d := tD M.ts) rfl))) ?_) ?_)
    (sv_frz (i := 2) rfl (sv_ret (st_ret (ev_callTy call_tuple_of (ea_cons (ev_var (i := 2) rfl rfl) ea_nil) rc_tupL T.tuple)))))⟩
  · intro i d hd
    obtain ⟨p, h1, rfl⟩ := map_get hd
    obtain ⟨s1, s2, _⟩ := hM.sp p (List.mem_of_getElem? h1)
    obtain ⟨r1, a1, b1, m1, n1⟩ := hL.at s1
    obtain ⟨r2, a2, b2, m2, n2⟩ := hL.at s2
    have z1 := hz _ m1 _ n1
    have z2 := hz _ m2 _ n2
    have z3 := sz_plus z1 z2
    have hi := (List.getElem?_eq_some_iff.mp h1).1
    have h8 := hM.tl
    have er : (readL M L)[i]? = some ((atL L p.1 + atL L p.2) / 2) := by simp [readL, h1]
    have hd := den_sz z3
    have h2 : ((2 : Int) * ((atL L p.1 + atL L p.2).den : Nat)).natAbs < 2 ^ 8000 := Nat.lt_of_lt_of_le (wide_lt (i := 2) (a := 2) (by decide) hd) (Nat.pow_le_pow_right (by decide) (by decide))
    have h0 : (0 : Int) < 2 * ((atL L p.1 + atL L p.2).den : Nat) := by have := (atL L p.1 + atL L p.2).den_pos; omega
    refine ⟨_, _, tg_tup (tgs_cons (tg_tup (tgs_cons (tg_name (i := 3) rfl (by simp) sc_lread.nd) (tgs_cons (tg_name (i := 4) rfl (by simp) sc_lread.nd) tgs_nil))) (tgs_cons (tg_tup (tgs_cons (tg_name (i := 5) rfl (by simp) sc_lread.nd) (tgs_cons (tg_name (i := 6) rfl (by simp) sc_lread.nd) tgs_nil))) tgs_nil)),
      Sv.to (sv_nx (st_asg (ev_call f1 hr (ea_cons (ev_ix ix_tup (ev_ix ix_tup (ev_var (i := 1) rfl rfl) (ev_var (i := 3) rfl rfl) (rd_ixT a1)) (ev_var (i := 4) rfl rfl) (rd_ixT b1)) (ea_cons (ev_ix ix_tup (ev_ix ix_tup (ev_var (i := 1) rfl rfl) (ev_var (i := 5) rfl rfl) (rd_ixT a2)) (ev_var (i := 6) rfl rfl) (rd_ixT b2)) ea_nil)) ⟨_, _, z1.mono (by decide), z2.mono (by decide), rfl, rfl⟩) (i := 7) rfl (by simp) sc_lread.nd)
      (sv_nx (st_app (i := 2) (xs := ((readL M L).take i).map fD) rfl rfl (ev_call f2 (hr.mono (by decide)) (ea_cons (ev_ix ix_tup (ev_var (i := 7) rfl rfl) ev_int (rd_ixT rfl)) (ea_cons (ev_bin op_mulW ev_int (ev_ix ix_tup (ev_var (i := 7) rfl rfl) ev_int (rd_ixT rfl)) (rd_intC (wide_mul (a := 2) (by decide) hd (by decide) (by decide) (by decide)))) ea_nil)) ⟨_, _, h0, h2, rfl, congrArg fD (divInt_half _).symm⟩) rfl ?_)
        (sv_drop 3 (sv_drop 4 (sv_drop 5 (sv_drop 6 (sv_drop 7 sv_nil))))))) ?_⟩
    · rw [List.length_map, List.length_take]; omega
    · rw [take_more er, List.map_append]; rfl
  · rw [List.take_of_length_le (by simp [readL])]
theorem sc_lsquares : FnScope ["load", "found", "row", "top", "bottom"] ["load"] (defScope (top 60)) := ⟨rfl, rfl, rfl, by decide +kernel, rfl, by decide +kernel, by decide +kernel⟩
def gLSquares (ds : List PyData) (z : PyData) : Prop := ∃ (M : Mach) (L : List (List Rat)), MOk M ∧ LOk M.cs L ∧ SzL 45 L ∧ ds = [lD L] ∧ z = fD (squaresL L)
theorem sum_app (a b : List Rat) : (a ++ b).sum = a.sum + b.sum := List.sum_append
theorem low_sq {t b : Int} {q : Rat} (hb : 0 < b) (h : Rat.divInt t b = q) : Rat.divInt (t * t) (b * b) = q * q := by
  subst h
  rw [Rat.divInt_eq_div, Rat.divInt_eq_div]
  have h1 : ((b : Int) : Rat) ≠ 0 := by
    intro e
    have : b = 0 := by exact_mod_cast e
    omega
  push_cast
  grind
theorem ok_lsquares {f : Addr} {fd : FuncData} (F : Fun K "_law_squares" "_law_squares" (top 60) f fd) (T : Tx mg) (f1 : Fn P w K mg base "_law_plus" 2 (spD K gPlus)) (f2 : Fn P w K mg base "_law_lowest" 1 (spD K gLow)) : FnOk P w K mg base CX0 3 f fd ["load"] (spD K gLSquares) := by
  refine okD F sc_lsquares (fun ds z ⟨_, _, _, _, _, e, _⟩ => by rw [e]; rfl) fun cdv A outer s H E hr ds z ⟨M, L, hM, hL, hz, e1, e2⟩ => ?_
  subst e1 e2
  have hfl := flat_len hL
  have hsum := hM.sum
  have part : ∀ (a b : List Rat), a ++ b <+: L.flatten → Sz 3000 ((a.map fun q => q * q).sum + (b.map fun q => q * q).sum) := fun a b h => by
    rw [← sum_app, ← List.map_append]
    have hl := h.length_le
    refine (sz_sum (k := 90) fun q hq => ?_).mono ?_
    · obtain ⟨p, hp, rfl⟩ := List.mem_map.mp hq
      obtain ⟨r, hr', hq'⟩ := mem_flat (h.subset hp)
      exact sz_times (hz r hr' p hq') (hz r hr' p hq')
    · rw [List.length_map]
      have := Nat.mul_le_mul_right 91 (show (a ++ b).length ≤ 30 by omega)
      omega
  refine ⟨_, sv_nx (st_asg (ev_tup (ea_cons ev_int (ea_cons ev_int ea_nil))) (i := 1) rfl (by simp) sc_lsquares.nd)
    (sv_nx (St1.to (s2 := [.d (lD L), .d (fD (squaresL L)), .x, .x, .x]) (st_for (S := fun i => [.d (lD L), .d (fD (((L.take i).flatten.map fun q => q * q).sum)), .x, .x, .x]) (items := L.map rowD) (ei_tup (ev_var (i := 0) rfl rfl)) ?_) ?_)
    (sv_ret (st_ret (ev_var (i := 1) rfl rfl))))⟩
  · intro i d hd
    obtain ⟨r, h1, rfl⟩ := map_get hd
    have hr1 := List.mem_of_getElem? h1
    have pre : ∀ j, (L.take i).flatten ++ r.take j <+: L.flatten := fun j => by
      have e : L = L.take i ++ r :: L.drop (i + 1) := by
        obtain ⟨hi, hp⟩ := List.getElem?_eq_some_iff.mp h1
        rw [← hp]; simp
      have e2 : L.flatten = (L.take i).flatten ++ (r ++ (L.drop (i + 1)).flatten) := by
        conv => lhs; rw [e]
        rw [List.flatten_append, List.flatten_cons]
      rw [e2]
      refine (List.prefix_append_right_inj _).mpr ?_
      exact (List.take_prefix j r).trans (List.prefix_append _ _)
    refine ⟨_, _, tg_name (i := 2) rfl (by simp) sc_lsquares.nd,
      Sv.to (sv_nx (st_for (S := fun j => [.d (lD L), .d (fD (((L.take i).flatten.map fun q => q * q).sum + ((r.take j).map fun q => q * q).sum)), .d (rowD r), .x, .x]) (items := r.map fD) (EvI.to (ei_tup (ev_var (i := 2) rfl rfl)) ?_) ?_) (sv_drop 2 sv_nil)) ?_⟩
    · simp [Rat.add_zero]
    · intro j d hd
      obtain ⟨q, hq, rfl⟩ := map_get hd
      have zq := (hz r hr1 q (List.mem_of_getElem? hq))
      have hp := part (L.take i).flatten (r.take j) (pre j)
      have hb0 : (0 : Int) < (q.den : Nat) := by have := q.den_pos; omega
      have hdd := den_sz zq
      refine ⟨_, _, tg_tup (tgs_cons (tg_name (i := 3) rfl (by simp) sc_lsquares.nd) (tgs_cons (tg_name (i := 4) rfl (by simp) sc_lsquares.nd) tgs_nil)),
        Sv.to (sv_nx (st_asg (ev_call f1 hr (ea_cons (ev_var (i := 1) rfl rfl) (ea_cons (ev_call f2 (hr.mono (by decide)) (ea_cons (ev_bin op_mulW (ev_var (i := 3) rfl rfl) (ev_var (i := 3) rfl rfl) (rd_intC (wide_mul zq.1 zq.1 (by decide) (by decide) (by decide)))) (ea_cons (ev_bin op_mulW (ev_var (i := 4) rfl rfl) (ev_var (i := 4) rfl rfl) (rd_intC (wide_mul hdd hdd (by decide) (by decide) (by decide)))) ea_nil)) ⟨_, _, Int.mul_pos hb0 hb0, ?_, rfl, congrArg fD (low_sq hb0 (Rat.num_divInt_den q)).symm⟩) ea_nil)) ⟨_, q * q, hp, (sz_times zq zq).mono (by decide), rfl, rfl⟩) (i := 1) rfl (by simp) sc_lsquares.nd)
          (sv_drop 3 (sv_drop 4 sv_nil))) ?_⟩
      · exact Nat.lt_of_lt_of_le (wide_lt hdd hdd) (Nat.pow_le_pow_right (by decide) (by decide))
      · rw [take_more hq, List.map_append, sum_app]
        simp [Rat.add_assoc, Rat.add_zero]
    · rw [List.length_map, List.take_length, flat_take h1, List.map_append, sum_app]; rfl
  · rw [List.length_map, List.take_length]; rfl
end
end Ewl

set_option maxRecDepth 100000
set_option maxHeartbeats 8000000
set_option exponentiation.threshold 10000
namespace Ewl
open PySem L2
section
variable {P : Program} {w : World} {K : PySem.W.Frag} {mg : Str → Option Value} {base : Heap}
def metT (L : List (List Rat)) (p : Spot × Spot) : Rat := (atL L p.1 + -atL L p.2) * (atL L p.1 + -atL L p.2) / 2
def metL (M : Mach) (L : List (List Rat)) : Rat := (M.ts.map (metT L)).sum
def gLMet (ds : List PyData) (z : PyData) : Prop := ∃ (M : Mach) (L : List (List Rat)), MOk M ∧ LOk M.cs L ∧ SzL 45 L ∧ ds = [mD M, lD L] ∧ z = fD (metL M L)
theorem sc_lmet : FnScope ["machine", "load", "found", "wheel", "at", "other", "spot", "gap"] ["machine", "load"] (defScope (top 61)) := ⟨rfl, rfl, rfl, by decide +kernel, rfl, by decide +kernel, by decide +kernel⟩
theorem neg_fD (q : Rat) : PyData.tuple [.int (0 - q.num), .int (q.den : Nat)] = fD (-q) := by
  unfold fD
  rw [Rat.neg_num, Rat.neg_den, Int.zero_sub]
theorem low_met {g : Rat} : Rat.divInt (g.num * g.num) (2 * (g.den : Nat) * (g.den : Nat)) = g * g / 2 := by
  have h := low_sq (t := g.num) (b := (g.den : Nat)) (q := g) (by have := g.den_pos; omega) (Rat.num_divInt_den g)
  rw [← h, Rat.divInt_eq_div, Rat.divInt_eq_div]
  have h1 : ((g.den : Nat) : Rat) ≠ 0 := by simp [g.den_nz]
  push_cast
  grind
theorem ok_lmet {f : Addr} {fd : FuncData} (F : Fun K "_law_met" "_law_met" (top 61) f fd) (T : Tx mg) (f1 : Fn P w K mg base "_law_plus" 2 (spD K gPlus)) (f2 : Fn P w K mg base "_law_lowest" 1 (spD K gLow)) : FnOk P w K mg base CX0 3 f fd ["machine", "load"] (spD K gLMet) := by
  refine okD F sc_lmet (fun ds z ⟨_, _, _, _, _, e, _⟩ => by rw [e]; rfl) fun cdv A outer s H E hr ds z ⟨M, L, hM, hL, hz, e1, e2⟩ => ?_
  subst e1 e2
  have h8 := hM.tl
  have cellz : ∀ p ∈ M.ts, Sz 45 (atL L p.1) ∧ Sz 45 (atL L p.2) := fun p hp => by
    obtain ⟨s1, s2, _⟩ := hM.sp p hp
    obtain ⟨r1, a1, b1, m1, n1⟩ := hL.at s1
    obtain ⟨r2, a2, b2, m2, n2⟩ := hL.at s2
    exact ⟨hz _ m1 _ n1, hz _ m2 _ n2⟩
  have gapz : ∀ p ∈ M.ts, Sz 91 (atL L p.1 + -atL L p.2) := fun p hp => sz_plus (cellz p hp).1 (sz_neg (cellz p hp).2)
  have mz : ∀ p ∈ M.ts, Sz 183 (metT L p) := fun p hp => sz_half (sz_times (gapz p hp) (gapz p hp))
  have part : ∀ i, Sz 3000 ((M.ts.take i).map (metT L)).sum := fun i => (sz_sum (k := 183) fun q hq => by
    obtain ⟨p, hp, rfl⟩ := List.mem_map.mp hq
    exact mz p (List.mem_of_mem_take hp)).mono (by
      rw [List.length_map, List.length_take]
      have := Nat.mul_le_mul_right 184 (show min i M.ts.length ≤ 8 by omega)
      omega)
  refine ⟨_, sv_nx (st_asg (ev_tup (ea_cons ev_int (ea_cons ev_int ea_nil))) (i := 2) rfl (by simp) sc_lmet.nd)
    (sv_nx (St1.to (s2 := [.d (mD M), .d (lD L), .d (fD (metL M L)), .x, .x, .x, .x, .x]) (st_for (S := fun i => [.d (mD M), .d (lD L), .d (fD ((M.ts.take i).map (metT L)).sum), .x, .x, .x, .x, .x]) (items := M.ts.map pD) (ei_tup (ev_ix ix_tup (ev_var (i := 0) rfl rfl) ev_int (rd_ixT (d := tD M.ts) rfl))) ?_) ?_)
    (sv_ret (st_ret (ev_var (i := 2) rfl rfl))))⟩
  · intro i d hd
    obtain ⟨p, h1, rfl⟩ := map_get hd
    have hp := List.mem_of_getElem? h1
    obtain ⟨s1, s2, _⟩ := hM.sp p hp
    obtain ⟨r1, a1, b1, m1, n1⟩ := hL.at s1
    obtain ⟨r2, a2, b2, m2, n2⟩ := hL.at s2
    obtain ⟨z1, z2⟩ := cellz p hp
    have zg := gapz p hp
    have hdd := den_sz zg
    have hg0 : (0 : Int) < ((atL L p.1 + -atL L p.2).den : Nat) := by have := (atL L p.1 + -atL L p.2).den_pos; omega
    have hw : ((2 : Int) * ((atL L p.1 + -atL L p.2).den : Nat)).natAbs < 2 ^ (2 + 91) := wide_lt (i := 2) (a := 2) (by decide) hdd
    refine ⟨_, _, tg_tup (tgs_cons (tg_tup (tgs_cons (tg_name (i := 3) rfl (by simp) sc_lmet.nd) (tgs_cons (tg_name (i := 4) rfl (by simp) sc_lmet.nd) tgs_nil))) (tgs_cons (tg_tup (tgs_cons (tg_name (i := 5) rfl (by simp) sc_lmet.nd) (tgs_cons (tg_name (i := 6) rfl (by simp) sc_lmet.nd) tgs_nil))) tgs_nil)),
      Sv.to (sv_nx (st_asg (ev_call f1 hr (ea_cons (ev_ix ix_tup (ev_ix ix_tup (ev_var (i := 1) rfl rfl) (ev_var (i := 3) rfl rfl) (rd_ixT a1)) (ev_var (i := 4) rfl rfl) (rd_ixT b1))
          (ea_cons (Ev.to (ev_tup (ea_cons (ev_bin op_sub ev_int (ev_ix ix_tup (ev_ix ix_tup (ev_ix ix_tup (ev_var (i := 1) rfl rfl) (ev_var (i := 5) rfl rfl) (rd_ixT a2)) (ev_var (i := 6) rfl rfl) (rd_ixT b2)) ev_int (rd_ixT rfl)) rd_int) (ea_cons (ev_ix ix_tup (ev_ix ix_tup (ev_ix ix_tup (ev_var (i := 1) rfl rfl) (ev_var (i := 5) rfl rfl) (rd_ixT a2)) (ev_var (i := 6) rfl rfl) (rd_ixT b2)) ev_int (rd_ixT rfl)) ea_nil))) (neg_fD _)) ea_nil))
          ⟨_, _, z1.mono (by decide), (sz_neg z2).mono (by decide), rfl, rfl⟩) (i := 7) rfl (by simp) sc_lmet.nd)
      (sv_nx (st_asg (ev_call f1 hr (ea_cons (ev_var (i := 2) rfl rfl) (ea_cons (ev_call f2 (hr.mono (by decide)) (ea_cons (ev_bin op_mulW (ev_ix ix_tup (ev_var (i := 7) rfl rfl) ev_int (rd_ixT rfl)) (ev_ix ix_tup (ev_var (i := 7) rfl rfl) ev_int (rd_ixT rfl)) (rd_intC (wide_mul zg.1 zg.1 (by decide) (by decide) (by decide))))
          (ea_cons (ev_bin op_mulW (ev_bin op_mulW ev_int (ev_ix ix_tup (ev_var (i := 7) rfl rfl) ev_int (rd_ixT rfl)) (rd_intC (wide_mul (a := 2) (by decide) hdd (by decide) (by decide) (by decide)))) (ev_ix ix_tup (ev_var (i := 7) rfl rfl) ev_int (rd_ixT rfl)) (rd_intC (wide_mul hw hdd (by decide) (by decide) (by decide)))) ea_nil))
          ⟨_, _, ?_, ?_, rfl, congrArg fD low_met.symm⟩) ea_nil)) ⟨_, metT L p, part i, (mz p hp).mono (by decide), rfl, rfl⟩) (i := 2) rfl (by simp) sc_lmet.nd)
        (sv_drop 3 (sv_drop 4 (sv_drop 5 (sv_drop 6 (sv_drop 7 sv_nil))))))) ?_⟩
    · exact Int.mul_pos (by omega) hg0
    · exact Nat.lt_of_lt_of_le (wide_lt hw hdd) (Nat.pow_le_pow_right (by decide) (by decide))
    · rw [take_more h1, List.map_append, sum_app]
      simp [Rat.add_zero]
  · rw [List.length_map, List.take_length]; rfl
end
end Ewl

set_option maxRecDepth 100000
set_option maxHeartbeats 8000000
set_option exponentiation.threshold 10000
namespace Ewl
open PySem L2
theorem roll_get {r : List Rat} {j : Nat} (hj : j < r.length) : ∃ q, r[(j + 1) % r.length]? = some q ∧ (rollR r)[j]? = some q := by
  unfold rollR
  by_cases h : j + 1 < r.length
  · rw [Nat.mod_eq_of_lt h]
    refine ⟨r[j + 1], by simp [h], ?_⟩
    rw [List.getElem?_append_left (by rw [List.length_drop]; omega), List.getElem?_drop, Nat.add_comm]
    simp [h]
  · have e : j + 1 = r.length := by omega
    rw [e, Nat.mod_self]
    refine ⟨r[0], by simp, ?_⟩
    rw [List.getElem?_append_right (by rw [List.length_drop]; omega), List.length_drop]
    have : j - (r.length - 1) = 0 := by omega
    rw [this]
    cases r with
    | nil => simp at hj
    | cons a r => simp
section
variable {P : Program} {w : World} {K : PySem.W.Frag} {mg : Str → Option Value} {base : Heap}
theorem sc_lbeat : FnScope ["machine", "load", "rows", "touch", "worth", "wheel", "at", "row"] ["machine", "load"] (defScope (top 59)) := ⟨rfl, rfl, rfl, by decide +kernel, rfl, by decide +kernel, by decide +kernel⟩
theorem ok_lbeat {f : Addr} {fd : FuncData} (F : Fun K "_law_beat" "_law_beat" (top 59) f fd) (T : Tx mg) (f1 : Fn P w K mg base "_law_read" 3 (spD K gRead_)) : FnOk P w K mg base CX0 4 f fd ["machine", "load"] (spD K gBeat_) := by
  refine okD F sc_lbeat (fun ds z ⟨_, _, _, _, _, e, _⟩ => by rw [e]; rfl) fun cdv A outer s H E hr ds z ⟨M, L, hM, hL, hz, e1, e2⟩ => ?_
  subst e1 e2
  refine ⟨_, sv_nx (st_lcLL (S := fun _ => [.d (mD M), .d (lD L), .x, .x, .x, .x, .x, .x]) (yss := L.map (List.map fD)) (own := [("row", 7)]) (j := 2) (ei_tup (ds := L.map rowD) (ev_var (i := 1) rfl rfl)) (blkOk_by (N := ["machine", "load", "rows", "touch", "worth", "wheel", "at", "row"]) (sc := defScope (top 59)) (by decide +kernel)) rfl ?_ ?_ ?_ sc_lbeat.nd rfl (by simp))
    (sv_nx (St1.to (s2 := [.d (mD M), .d (lD L), .ll ((shareL M.ts (readL M L) L).map (List.map fD)), .x, .x, .x, .x, .x]) (st_for (S := fun i => [.d (mD M), .d (lD L), .ll ((shareL (M.ts.take i) (readL M L) L).map (List.map fD)), .x, .x, .x, .x, .x]) (items := zipD (M.ts.map pD) ((readL M L).map fD))
      (ei_zipT (ds := M.ts.map pD) (es := (readL M L).map fD) (ea_cons (ev_ix ix_tup (ev_var (i := 0) rfl rfl) ev_int (rd_ixT (d := tD M.ts) rfl)) (ea_cons (ev_call f1 hr (ea_cons (ev_var (i := 0) rfl rfl) (ea_cons (ev_var (i := 1) rfl rfl) ea_nil)) ⟨M, L, hM, hL, hz, rfl, rfl⟩) ea_nil)) ?_ T.zip) ?_) ?_)
    (sv_frzLL (i := 2) rfl (sv_ret (st_ret (Ev.to (ev_callTy call_tuple_of (ea_cons (EvL.ev (el_lc (S := fun _ => [.d (mD M), .d (lD L), .d (llD (shareL M.ts (readL M L) L)), .x, .x, .x, .x, .x]) (ys := (beatL M L).map rowD) (own := [("row", 7)])
      (ei_list (ds := ((shareL M.ts (readL M L) L).map (List.map fD)).map .list) (ev_var (i := 2) rfl rfl)) (blkOk_by (N := ["machine", "load", "rows", "touch", "worth", "wheel", "at", "row"]) (sc := defScope (top 59)) (by decide +kernel)) rfl ?_ ?_ ?_ sc_lbeat.nd)) ea_nil) rc_tupL T.tuple) rfl)))))⟩
  · simp
  · have := hM.len2
    have := hL.len
    simp
    omega
  · intro i d y hd hy
    obtain ⟨r, h1, rfl⟩ := map_get hd
    have h30 := hL.row30 hM h1
    have ey : y = r.map fD := by
      have : (L.map (List.map fD))[i]? = some (r.map fD) := by simp [h1]
      rw [this] at hy; exact (Option.some.inj hy).symm
    subst ey
    exact ⟨_, [7], _, fun j hj => hj, rfl, fun s' H' C cl fp => ⟨tg_name (i := 7) rfl (by simp) sc_lbeat.nd, el_callTy call_list_of (ea_cons (ev_var (i := 7) rfl rfl) ea_nil) rcl_listT T.list⟩⟩
  · simp [readL]
  · intro i d hd
    obtain ⟨x1, x2, g1, g2, rfl⟩ := zip_item hd
    obtain ⟨p, h1, rfl⟩ := map_get g1
    obtain ⟨r, h2, rfl⟩ := map_get g2
    obtain ⟨s1, s2, _⟩ := hM.sp p (List.mem_of_getElem? h1)
    have hR : LOk M.cs (shareL (M.ts.take i) (readL M L) L) := share_ok hL
    rw [share_step h1 h2]
    generalize shareL (M.ts.take i) (readL M L) L = R at hR
    have hR1 : LOk M.cs (setAt R p.1 r) := setAt_len hR
    refine ⟨_, _, tg_tup (tgs_cons (tg_name (i := 3) rfl (by simp) sc_lbeat.nd) (tgs_cons (tg_name (i := 4) rfl (by simp) sc_lbeat.nd) tgs_nil)),
      Sv.to (sv_nx (st_for (S := fun j => [.d (mD M), .d (lD L), .ll ((if j = 0 then R else if j = 1 then setAt R p.1 r else setAt (setAt R p.1 r) p.2 r).map (List.map fD)), .d (pD p), .d (fD r), .x, .x, .x]) (items := [sD p.1, sD p.2]) (ei_tup (ev_var (i := 3) rfl rfl)) ?_) (sv_drop 3 (sv_drop 4 sv_nil))) rfl⟩
    intro j d hd
    match j, hd with
    | 0, hd =>
      have ed : d = sD p.1 := (Option.some.inj hd).symm
      subst ed
      obtain ⟨row, e1, e2, _⟩ := hR.spot s1
      exact ⟨_, _, tg_tup (tgs_cons (tg_name (i := 5) rfl (by simp) sc_lbeat.nd) (tgs_cons (tg_name (i := 6) rfl (by simp) sc_lbeat.nd) tgs_nil)),
        Sv.to (sv_nx (st_setLL (i := 2) (w := p.1.1) (n := p.1.2) (xss := R.map (List.map fD)) (xs := row.map fD) rfl (ev_var (i := 4) rfl rfl) rfl (eq_var (i := 5) rfl rfl) (eq_var (i := 6) rfl rfl) (by rw [List.getElem?_map, e1]; rfl) (by simpa using e2)) (sv_drop 5 (sv_drop 6 sv_nil))) (by rw [set_map e1]; rfl)⟩
    | 1, hd =>
      have ed : d = sD p.2 := (Option.some.inj hd).symm
      subst ed
      obtain ⟨row, e1, e2, _⟩ := hR1.spot s2
      exact ⟨_, _, tg_tup (tgs_cons (tg_name (i := 5) rfl (by simp) sc_lbeat.nd) (tgs_cons (tg_name (i := 6) rfl (by simp) sc_lbeat.nd) tgs_nil)),
        Sv.to (sv_nx (st_setLL (i := 2) (w := p.2.1) (n := p.2.2) (xss := (setAt R p.1 r).map (List.map fD)) (xs := row.map fD) rfl (ev_var (i := 4) rfl rfl) rfl (eq_var (i := 5) rfl rfl) (eq_var (i := 6) rfl rfl) (by rw [List.getElem?_map, e1]; rfl) (by simpa using e2)) (sv_drop 5 (sv_drop 6 sv_nil))) (by rw [set_map e1]; rfl)⟩
    | n + 2, hd => simp at hd
  · have : M.ts.take ((zipD (M.ts.map pD) ((readL M L).map fD)).length) = M.ts := List.take_of_length_le (by simp [zipD_len, readL])
    simp only [this]
  · simp [beatL, rollL]
  · have := hM.len2
    have := (share_ok (ts := M.ts) (rs := readL M L) hL).len
    simp
    omega
  · intro i d y hd hy
    have hB := share_ok (ts := M.ts) (rs := readL M L) hL
    rw [List.map_map] at hd
    obtain ⟨r, h1, rfl⟩ := map_get hd
    have h30 := hB.row30 hM h1
    have ey : y = rowD (rollR r) := by
      have : ((beatL M L).map rowD)[i]? = some (rowD (rollR r)) := by simp [beatL, rollL, h1]
      rw [this] at hy; exact (Option.some.inj hy).symm
    subst ey
    refine ⟨_, [7], _, fun j hj => hj, ?_, fun s' H' C cl fp => ⟨tg_name (i := 7) rfl (by simp) sc_lbeat.nd,
      Ev.to (ev_callTy call_tuple_of (ea_cons (EvL.ev (el_lc (S := fun _ => [.d (mD M), .d (lD L), .d (llD (shareL M.ts (readL M L) L)), .x, .x, .x, .x, .d (.list (r.map fD))]) (ys := (rollR r).map fD) (own := [("at", 6)])
        (ei_rng1 (j := (r.map fD).length) (ea_cons (ev_callB call_len_seq (ea_cons (ev_var (i := 7) (d := .list (r.map fD)) rfl rfl) ea_nil) rc_lenL T.len) ea_nil) T.range (by rw [List.length_map]; omega)) (blkOk_by (N := ["machine", "load", "rows", "touch", "worth", "wheel", "at", "row"]) (by kernel_rfl)) rfl ?_ ?_ ?_ sc_lbeat.nd)) ea_nil) rc_tupL T.tuple) rfl⟩⟩
    · rfl
    · simp [rngD_len, roll_len]
    · simp [rngD_len]; omega
    · intro j d y hd hy
      obtain ⟨hj, rfl⟩ := rng_item hd
      have hj' : j < r.length := by simpa using hj
      obtain ⟨q, h2, h3⟩ := roll_get hj'
      have ey : y = fD q := by
        rw [List.getElem?_map, h3] at hy; exact (Option.some.inj hy).symm
      subst ey
      have ea : atI (r.map fD) ((0 + ((j : Nat) : Int) + 1) % (((r.map fD).length : Nat) : Int)) = some (fD q) := by
        have : (0 + ((j : Nat) : Int) + 1) % (((r.map fD).length : Nat) : Int) = (((j + 1) % r.length : Nat) : Int) := by
          rw [List.length_map, Int.natCast_emod]; push_cast; rw [Int.zero_add]
        rw [this]
        exact at_nat (by rw [List.getElem?_map, h2]; rfl)
      have hpos : (0 : Int) < (((r.map fD).length : Nat) : Int) := by rw [List.length_map]; omega
      exact ⟨_, [6], _, fun j hj => hj, rfl, fun s' H' C cl fp => ⟨tg_name (i := 6) rfl (by simp) sc_lbeat.nd,
        ev_ix ix_list (ev_var (i := 7) (d := .list (r.map fD)) rfl rfl) (ev_bin op_mod (ev_bin op_add (ev_var (i := 6) rfl rfl) ev_int rd_int) (ev_callB call_len_seq (ea_cons (ev_var (i := 7) (d := .list (r.map fD)) rfl rfl) ea_nil) rc_lenL T.len) (rd_intC hpos)) (rd_ixL ea)⟩⟩
end
end Ewl

set_option maxRecDepth 100000
set_option maxHeartbeats 4000000
/-! Loads: the mathematics. -/
namespace Ewl
open PySem L2
theorem load_ext {cs : List Nat} {L L' : List (List Rat)} (h : LOk cs L) (h' : LOk cs L') (e : ∀ s, SpOk cs s → atL L s = atL L' s) : L = L' := by
  apply List.ext_getElem?
  intro i
  cases hc : cs[i]? with
  | none =>
    have hi : cs.length ≤ i := List.getElem?_eq_none_iff.mp hc
    rw [List.getElem?_eq_none_iff.mpr (by rw [h.len]; exact hi), List.getElem?_eq_none_iff.mpr (by rw [h'.len]; exact hi)]
  | some c =>
    obtain ⟨r, hr, hl⟩ := h.get hc
    obtain ⟨r', hr', hl'⟩ := h'.get hc
    rw [hr, hr']
    congr 1
    apply List.ext_getElem (by omega)
    intro j h1 h2
    have := e (i, j) ⟨c, hc, by simp; omega⟩
    unfold atL at this
    simpa [hr, hr', h1, h2] using this
theorem at_set {cs : List Nat} {L : List (List Rat)} {s t : Spot} {q : Rat} (h : LOk cs L) (hs : SpOk cs s) : atL (setAt L s q) t = if t = s then q else atL L t := by
  obtain ⟨r, hr, hp, _⟩ := h.spot hs
  obtain ⟨w, p⟩ := s
  obtain ⟨w', p'⟩ := t
  simp only at hr hp
  have hw := (List.getElem?_eq_some_iff.mp hr).1
  unfold atL setAt
  simp only [List.getD_eq_getElem?_getD]
  by_cases e1 : w = w'
  · subst e1
    rw [List.getElem?_set_self hw, hr]
    by_cases e2 : p = p'
    · subst e2
      simp [List.getElem?_set_self hp]
    · have : ¬ ((w, p') : Spot) = (w, p) := fun z => e2 (congrArg Prod.snd z).symm
      rw [if_neg this]
      simp [List.getElem?_set_ne e2]
  · have : ¬ ((w', p') : Spot) = (w, p) := fun z => e1 (congrArg Prod.fst z).symm
    rw [if_neg this, List.getElem?_set_ne e1]
theorem at_add {cs : List Nat} {L L' : List (List Rat)} {s : Spot} (h : LOk cs L) (h' : LOk cs L') (hs : SpOk cs s) : atL (addL L L') s = atL L s + atL L' s := by
  obtain ⟨r, hr, hp, _⟩ := h.spot hs
  obtain ⟨r', hr', hp', _⟩ := h'.spot hs
  unfold atL addL
  simp [List.getElem?_zipWith, hr, hr', hp, hp']
theorem at_scale {cs : List Nat} {L : List (List Rat)} {s : Spot} {c : Rat} (h : LOk cs L) (hs : SpOk cs s) : atL (scaleL L c) s = atL L s * c := by
  obtain ⟨r, hr, hp, _⟩ := h.spot hs
  unfold atL scaleL
  simp [hr, hp]
theorem at_zero {cs : List Nat} {s : Spot} (hs : SpOk cs s) : atL (zeroL cs) s = 0 := by
  obtain ⟨c, hc, hp⟩ := hs
  unfold atL zeroL
  simp [hc, hp]
theorem add_zero' {cs : List Nat} {L : List (List Rat)} (h : LOk cs L) : addL L (zeroL cs) = L :=
  load_ext (add_ok h zero_ok) h fun s hs => by rw [at_add h zero_ok hs, at_zero hs, Rat.add_zero]
theorem one_ok {cs : List Nat} {s : Spot} : LOk cs (oneL cs s) := setAt_len zero_ok
theorem at_one {cs : List Nat} {s t : Spot} (hs : SpOk cs s) (ht : SpOk cs t) : atL (oneL cs s) t = if t = s then 1 else 0 := by
  unfold oneL
  rw [at_set zero_ok hs, at_zero ht]
/-! each spot alone -/
def accL (cs : List Nat) (L : List (List Rat)) : List Spot → List (List Rat) → List (List Rat)
  | [], F => F
  | s :: ss, F => accL cs L ss (addL F (scaleL (oneL cs s) (atL L s)))
theorem acc_app (cs : List Nat) (L : List (List Rat)) (s : Spot) : ∀ (ss : List Spot) (F : List (List Rat)), accL cs L (ss ++ [s]) F = addL (accL cs L ss F) (scaleL (oneL cs s) (atL L s))
  | [], F => rfl
  | _ :: ss, F => acc_app cs L s ss _
theorem acc_ok {cs : List Nat} {L : List (List Rat)} : ∀ {ss : List Spot} {F : List (List Rat)}, LOk cs F → LOk cs (accL cs L ss F)
  | [], _, h => h
  | _ :: ss, _, h => acc_ok (ss := ss) (add_ok h (scale_ok one_ok))
theorem at_acc {cs : List Nat} {L : List (List Rat)} {t : Spot} (ht : SpOk cs t) : ∀ {ss : List Spot} {F : List (List Rat)}, LOk cs F → (∀ s ∈ ss, SpOk cs s) → ss.Nodup → atL (accL cs L ss F) t = atL F t + if t ∈ ss then atL L t else 0
  | [], F, _, _, _ => by simp [accL, Rat.add_zero]
  | s :: ss, F, h, hs, nd => by
    have h1 := hs s List.mem_cons_self
    show atL (accL cs L ss (addL F (scaleL (oneL cs s) (atL L s)))) t = _
    rw [at_acc ht (add_ok h (scale_ok one_ok)) (fun x hx => hs x (List.mem_cons_of_mem _ hx)) (List.nodup_cons.mp nd).2, at_add h (scale_ok one_ok) ht, at_scale one_ok ht, at_one h1 ht]
    by_cases e : t = s
    · subst e
      have n1 := (List.nodup_cons.mp nd).1
      simp [n1, Rat.add_zero, Rat.one_mul]
    · simp [e, Rat.add_zero, Rat.zero_mul]
theorem acc_all {cs : List Nat} {L : List (List Rat)} (h : LOk cs L) : accL cs L (spotsL cs).flatten (zeroL cs) = L :=
  load_ext (acc_ok zero_ok) h fun s hs => by
    rw [at_acc hs zero_ok (fun t ht => spots_mem.mp ht) (spots_nd cs), at_zero hs, if_pos (spots_mem.mpr hs), Rat.zero_add]
/-! beats are linear -/
def Lin (cs : List Nat) (c : Rat) (A B C : List (List Rat)) : Prop := ∀ s, SpOk cs s → atL C s = atL A s + atL B s * c
theorem lin_set {cs : List Nat} {c : Rat} {A B C : List (List Rat)} {s : Spot} {p q : Rat} (hA : LOk cs A) (hB : LOk cs B) (hC : LOk cs C) (hs : SpOk cs s) (h : Lin cs c A B C) : Lin cs c (setAt A s p) (setAt B s q) (setAt C s (p + q * c)) := fun t ht => by
  rw [at_set hA hs, at_set hB hs, at_set hC hs]
  by_cases e : t = s
  · simp [e]
  · simp [e]; exact h t ht
theorem lin_share {cs : List Nat} {c : Rat} : ∀ {ts : List (Spot × Spot)} {ps qs : List Rat} {A B C : List (List Rat)}, LOk cs A → LOk cs B → LOk cs C → (∀ p ∈ ts, SpOk cs p.1 ∧ SpOk cs p.2) → ps.length = ts.length → qs.length = ts.length → Lin cs c A B C →
    Lin cs c (shareL ts ps A) (shareL ts qs B) (shareL ts (List.zipWith (fun p q => p + q * c) ps qs) C)
  | [], _, _, _, _, _, _, _, _, _, _, _, h => h
  | t :: ts, p :: ps, q :: qs, A, B, C, hA, hB, hC, hs, l1, l2, h => by
    obtain ⟨h1, h2⟩ := hs t List.mem_cons_self
    exact lin_share (ts := ts) (ps := ps) (qs := qs) (setAt_len (setAt_len hA)) (setAt_len (setAt_len hB)) (setAt_len (setAt_len hC)) (fun x hx => hs x (List.mem_cons_of_mem _ hx)) (by simpa using l1) (by simpa using l2)
      (lin_set (setAt_len hA) (setAt_len hB) (setAt_len hC) h2 (lin_set hA hB hC h1 h))
  | _ :: _, [], _, _, _, _, _, _, _, _, l1, _, _ => by simp at l1
  | _ :: _, _ :: _, [], _, _, _, _, _, _, _, _, l2, _ => by simp at l2
theorem at_roll {cs : List Nat} {L : List (List Rat)} {w p c : Nat} (h : LOk cs L) (hc : cs[w]? = some c) (hp : p < c) : atL (rollL L) (w, p) = atL L (w, (p + 1) % c) := by
  obtain ⟨r, hr, hl⟩ := h.get hc
  obtain ⟨q, h1, h2⟩ := roll_get (r := r) (j := p) (by omega)
  unfold atL rollL
  rw [hl] at h1
  simp [hr, h1, h2]
theorem lin_roll {cs : List Nat} {c : Rat} {A B C : List (List Rat)} (hA : LOk cs A) (hB : LOk cs B) (hC : LOk cs C) (h : Lin cs c A B C) : Lin cs c (rollL A) (rollL B) (rollL C) := fun s ⟨n, hn, hp⟩ => by
  obtain ⟨w, p⟩ := s
  simp only at hn hp
  rw [at_roll hA hn hp, at_roll hB hn hp, at_roll hC hn hp]
  exact h _ ⟨n, hn, Nat.mod_lt _ (by omega)⟩
theorem lin_beat {M : Mach} (hM : MOk M) {c : Rat} {A B C : List (List Rat)} (hA : LOk M.cs A) (hB : LOk M.cs B) (hC : LOk M.cs C) (h : Lin M.cs c A B C) : Lin M.cs c (beatL M A) (beatL M B) (beatL M C) := by
  have er : readL M C = List.zipWith (fun p q => p + q * c) (readL M A) (readL M B) := by
    unfold readL
    rw [List.zipWith_map]
    have : ∀ ts : List (Spot × Spot), (∀ p ∈ ts, SpOk M.cs p.1 ∧ SpOk M.cs p.2) → ts.map (fun p => (atL C p.1 + atL C p.2) / 2) = List.zipWith (fun a b => (atL A a.1 + atL A a.2) / 2 + (atL B b.1 + atL B b.2) / 2 * c) ts ts := by
      intro ts
      induction ts with
      | nil => intro _; rfl
      | cons p ts ih =>
        intro hs
        obtain ⟨h1, h2⟩ := hs p List.mem_cons_self
        rw [List.map_cons, List.zipWith_cons_cons, ih fun x hx => hs x (List.mem_cons_of_mem _ hx), h _ h1, h _ h2]
        congr 1
        grind
    exact this M.ts fun p hp => ⟨(hM.sp p hp).1, (hM.sp p hp).2.1⟩
  unfold beatL
  refine lin_roll (share_ok hA) (share_ok hB) (share_ok hC) ?_
  rw [er]
  exact lin_share hA hB hC (fun p hp => ⟨(hM.sp p hp).1, (hM.sp p hp).2.1⟩) (by simp [readL]) (by simp [readL]) h
theorem lin_it {M : Mach} (hM : MOk M) {c : Rat} {A B C : List (List Rat)} (hA : LOk M.cs A) (hB : LOk M.cs B) (hC : LOk M.cs C) (h : Lin M.cs c A B C) : ∀ n, Lin M.cs c (itB M n A) (itB M n B) (itB M n C)
  | 0 => h
  | n + 1 => lin_beat hM (it_ok hA n) (it_ok hB n) (it_ok hC n) (lin_it hM hA hB hC h n)
theorem lin_mk {cs : List Nat} {c : Rat} {A B : List (List Rat)} (hA : LOk cs A) (hB : LOk cs B) : Lin cs c A B (addL A (scaleL B c)) := fun s hs => by rw [at_add hA (scale_ok hB) hs, at_scale hB hs]
theorem lin_eq {cs : List Nat} {c : Rat} {A B C : List (List Rat)} (hA : LOk cs A) (hB : LOk cs B) (hC : LOk cs C) (h : Lin cs c A B C) : C = addL A (scaleL B c) :=
  load_ext hC (add_ok hA (scale_ok hB)) fun s hs => by rw [h s hs, lin_mk hA hB s hs]
theorem it_lin {M : Mach} (hM : MOk M) {c : Rat} {A B : List (List Rat)} (hA : LOk M.cs A) (hB : LOk M.cs B) (n : Nat) : itB M n (addL A (scaleL B c)) = addL (itB M n A) (scaleL (itB M n B) c) :=
  lin_eq (it_ok hA n) (it_ok hB n) (it_ok (add_ok hA (scale_ok hB)) n) (lin_it hM hA hB (add_ok hA (scale_ok hB)) (lin_mk hA hB) n)
theorem it_add (M : Mach) (L : List (List Rat)) (a : Nat) : ∀ b, itB M b (itB M a L) = itB M (a + b) L
  | 0 => rfl
  | b + 1 => congrArg (beatL M) (it_add M L a b)
end Ewl

set_option maxRecDepth 100000
set_option maxHeartbeats 4000000
/-! What is held, the squares. -/
namespace Ewl
open PySem L2
def sF (f : Rat → Rat) (L : List (List Rat)) : Rat := (L.flatten.map f).sum
theorem sum_perm {a b : List Rat} (h : a.Perm b) : a.sum = b.sum := by
  induction h with
  | nil => rfl
  | cons x _ ih => rw [List.sum_cons, List.sum_cons, ih]
  | swap x y l => simp only [List.sum_cons]; grind
  | trans _ _ h1 h2 => exact h1.trans h2
theorem row_set {f : Rat → Rat} {q x : Rat} : ∀ {r : List Rat} {j : Nat}, r[j]? = some x → ((r.set j q).map f).sum = (r.map f).sum - f x + f q
  | [], j, h => by simp at h
  | y :: r, 0, h => by
    simp at h
    subst h
    simp only [List.set_cons_zero, List.map_cons, List.sum_cons]
    grind
  | y :: r, j + 1, h => by
    have := row_set (f := f) (q := q) (r := r) (j := j) (by simpa using h)
    simp only [List.set_cons_succ, List.map_cons, List.sum_cons, this]
    grind
theorem sF_cons (f : Rat → Rat) (r : List Rat) (L : List (List Rat)) : sF f (r :: L) = (r.map f).sum + sF f L := by
  unfold sF
  rw [List.flatten_cons, List.map_append, sum_app]
theorem sF_row {f : Rat → Rat} {r r' : List Rat} : ∀ {L : List (List Rat)} {i : Nat}, L[i]? = some r → sF f (L.set i r') = sF f L - (r.map f).sum + (r'.map f).sum
  | [], i, h => by simp at h
  | y :: L, 0, h => by
    simp at h
    subst h
    rw [List.set_cons_zero, sF_cons, sF_cons]
    grind
  | y :: L, i + 1, h => by
    have := sF_row (f := f) (r := r) (r' := r') (L := L) (i := i) (by simpa using h)
    rw [List.set_cons_succ, sF_cons, sF_cons, this]
    grind
theorem sF_set {f : Rat → Rat} {cs : List Nat} {L : List (List Rat)} {s : Spot} {q : Rat} (h : LOk cs L) (hs : SpOk cs s) : sF f (setAt L s q) = sF f L - f (atL L s) + f q := by
  obtain ⟨r, hr, hp, hq⟩ := h.spot hs
  unfold setAt
  have e : L.getD s.1 [] = r := by rw [List.getD_eq_getElem?_getD, hr]; rfl
  rw [e, sF_row hr, row_set hq]
  grind
theorem sF_roll {f : Rat → Rat} (L : List (List Rat)) : sF f (rollL L) = sF f L := by
  induction L with
  | nil => rfl
  | cons r L ih =>
    show sF f (rollR r :: rollL L) = _
    rw [sF_cons, sF_cons, ih]
    congr 1
    refine sum_perm (List.Perm.map f ?_)
    unfold rollR
    cases r with
    | nil => exact List.Perm.refl _
    | cons a r => simpa using (List.perm_append_singleton a r)
/-- what a touch changes -/
def dT (f : Rat → Rat) (L : List (List Rat)) (p : Spot × Spot) : Rat := 2 * f ((atL L p.1 + atL L p.2) / 2) - f (atL L p.1) - f (atL L p.2)
theorem sF_share {f : Rat → Rat} {cs : List Nat} {L0 : List (List Rat)} : ∀ {ts : List (Spot × Spot)} {L : List (List Rat)}, LOk cs L → (∀ p ∈ ts, SpOk cs p.1 ∧ SpOk cs p.2) → (tSpots ts).Nodup → (∀ s ∈ tSpots ts, atL L s = atL L0 s) →
    sF f (shareL ts (ts.map fun p => (atL L0 p.1 + atL L0 p.2) / 2) L) = sF f L + (ts.map (dT f L0)).sum
  | [], L, _, _, _, _ => by
    show sF f L = sF f L + _
    rw [List.map_nil, List.sum_nil, Rat.add_zero]
  | p :: ts, L, h, hs, nd, e => by
    obtain ⟨h1, h2⟩ := hs p List.mem_cons_self
    have nd' : (p.1 :: p.2 :: tSpots ts).Nodup := nd
    have n1 := List.nodup_cons.mp nd'
    have n2 := List.nodup_cons.mp n1.2
    have ne : p.2 ≠ p.1 := fun z => n1.1 (by rw [← z]; exact List.mem_cons_self)
    have e1 : atL L p.1 = atL L0 p.1 := e _ (by simp [tSpots])
    have e2 : atL L p.2 = atL L0 p.2 := e _ (by simp [tSpots])
    have ih := sF_share (f := f) (L0 := L0) (ts := ts) (L := setAt (setAt L p.1 ((atL L0 p.1 + atL L0 p.2) / 2)) p.2 ((atL L0 p.1 + atL L0 p.2) / 2)) (setAt_len (setAt_len h)) (fun x hx => hs x (List.mem_cons_of_mem _ hx)) n2.2 fun s hs' => by
      have a1 : s ≠ p.1 := fun z => n1.1 (by rw [← z]; exact List.mem_cons_of_mem _ hs')
      have a2 : s ≠ p.2 := fun z => n2.1 (by rw [← z]; exact hs')
      rw [at_set (setAt_len h) h2, if_neg a2, at_set h h1, if_neg a1]
      exact e s (by simp only [tSpots, List.flatMap_cons]; exact List.mem_append_right _ hs')
    show sF f (shareL ts (ts.map fun p => (atL L0 p.1 + atL L0 p.2) / 2) (setAt (setAt L p.1 ((atL L0 p.1 + atL L0 p.2) / 2)) p.2 ((atL L0 p.1 + atL L0 p.2) / 2))) = _
    rw [ih, sF_set (setAt_len h) h2, sF_set h h1, at_set h h1, if_neg ne, e1, e2, List.map_cons, List.sum_cons]
    unfold dT
    grind
theorem held_sF (L : List (List Rat)) : heldL L = sF (fun q => q) L := by unfold heldL sF; rw [List.map_id']
theorem squares_sF (L : List (List Rat)) : squaresL L = sF (fun q => q * q) L := rfl
theorem sum_zero {α : Type} {f : α → Rat} : ∀ {l : List α}, (∀ x ∈ l, f x = 0) → (l.map f).sum = 0
  | [], _ => rfl
  | x :: l, h => by rw [List.map_cons, List.sum_cons, h x List.mem_cons_self, sum_zero fun y hy => h y (List.mem_cons_of_mem _ hy), Rat.add_zero]
theorem sum_eq {α : Type} {f g : α → Rat} : ∀ {l : List α}, (∀ x ∈ l, f x = g x) → (l.map f).sum = (l.map g).sum
  | [], _ => rfl
  | x :: l, h => by rw [List.map_cons, List.sum_cons, List.map_cons, List.sum_cons, h x List.mem_cons_self, sum_eq fun y hy => h y (List.mem_cons_of_mem _ hy)]
theorem sum_neg {α : Type} {f : α → Rat} : ∀ {l : List α}, (l.map fun x => -f x).sum = -(l.map f).sum
  | [] => rfl
  | x :: l => by rw [List.map_cons, List.sum_cons, List.map_cons, List.sum_cons, sum_neg]; grind
theorem sF_beat {M : Mach} (hM : MOk M) {f : Rat → Rat} {L : List (List Rat)} (h : LOk M.cs L) : sF f (beatL M L) = sF f L + (M.ts.map (dT f L)).sum := by
  unfold beatL
  rw [sF_roll]
  exact sF_share h (fun p hp => ⟨(hM.sp p hp).1, (hM.sp p hp).2.1⟩) hM.nd fun _ _ => rfl
theorem held_beat {M : Mach} (hM : MOk M) {L : List (List Rat)} (h : LOk M.cs L) : heldL (beatL M L) = heldL L := by
  rw [held_sF, held_sF, sF_beat hM h, sum_zero, Rat.add_zero]
  intro p _
  unfold dT
  grind
theorem held_it {M : Mach} (hM : MOk M) {L : List (List Rat)} (h : LOk M.cs L) : ∀ n, heldL (itB M n L) = heldL L
  | 0 => rfl
  | n + 1 => (held_beat hM (it_ok h n)).trans (held_it hM h n)
theorem squares_beat {M : Mach} (hM : MOk M) {L : List (List Rat)} (h : LOk M.cs L) : squaresL (beatL M L) + metL M L = squaresL L := by
  rw [squares_sF, squares_sF, sF_beat hM h]
  have e : (M.ts.map (dT (fun q => q * q) L)).sum = -(M.ts.map (metT L)).sum := by
    rw [← sum_neg]
    refine sum_eq fun p _ => ?_
    unfold dT metT
    grind
  unfold metL
  rw [e]
  grind
/-! sizes behind some beats -/
theorem mem_at {cs : List Nat} {L : List (List Rat)} (h : LOk cs L) {r : List Rat} {q : Rat} (hr : r ∈ L) (hq : q ∈ r) : ∃ s, SpOk cs s ∧ q = atL L s := by
  obtain ⟨i, hi, rfl⟩ := List.getElem_of_mem hr
  obtain ⟨j, hj, rfl⟩ := List.getElem_of_mem hq
  have hc : cs[i]? = some L[i].length := by
    have : (L.map List.length)[i]? = cs[i]? := by rw [h]
    rw [← this]; simp [hi]
  exact ⟨(i, j), ⟨_, hc, hj⟩, by unfold atL; simp [hi, hj]⟩
theorem bd_at {cs : List Nat} {L : List (List Rat)} {d n : Nat} (h : LOk cs L) : BdL d n L ↔ ∀ s, SpOk cs s → Bd d n (atL L s) := by
  constructor
  · intro hb s hs
    obtain ⟨r, hr, _, hq⟩ := h.spot hs
    exact hb r (List.mem_of_getElem? hr) _ (List.mem_of_getElem? hq)
  · intro hb r hr q hq
    obtain ⟨s, hs, rfl⟩ := mem_at h hr hq
    exact hb s hs
theorem bd_share {cs : List Nat} {d n : Nat} : ∀ {ts : List (Spot × Spot)} {rs : List Rat} {L : List (List Rat)}, LOk cs L → (∀ p ∈ ts, SpOk cs p.1 ∧ SpOk cs p.2) → (∀ q ∈ rs, Bd d n q) → BdL d n L → BdL d n (shareL ts rs L)
  | [], _, _, _, _, _, h => h
  | _ :: _, [], _, _, _, _, h => h
  | p :: ts, r :: rs, L, hL, hs, hr, h => by
    obtain ⟨h1, h2⟩ := hs p List.mem_cons_self
    have hb := hr r List.mem_cons_self
    have q1 : BdL d n (setAt L p.1 r) := (bd_at (setAt_len hL)).mpr fun s hs => by
      rw [at_set hL h1]
      split
      · exact hb
      · exact (bd_at hL).mp h s hs
    have q2 : BdL d n (setAt (setAt L p.1 r) p.2 r) := (bd_at (setAt_len (setAt_len hL))).mpr fun s hs => by
      rw [at_set (setAt_len hL) h2]
      split
      · exact hb
      · exact (bd_at (setAt_len hL)).mp q1 s hs
    exact bd_share (ts := ts) (rs := rs) (setAt_len (setAt_len hL)) (fun x hx => hs x (List.mem_cons_of_mem _ hx)) (fun x hx => hr x (List.mem_cons_of_mem _ hx)) q2
theorem bd_beat {M : Mach} (hM : MOk M) {d n : Nat} {L : List (List Rat)} (h : LOk M.cs L) (hb : BdL d n L) : BdL (d * 2) n (beatL M L) := by
  have hs : BdL (d * 2) n (shareL M.ts (readL M L) L) := bd_share h (fun p hp => ⟨(hM.sp p hp).1, (hM.sp p hp).2.1⟩) (fun q hq => by
    obtain ⟨p, hp, rfl⟩ := List.mem_map.mp hq
    exact ((bd_at h).mp hb _ (hM.sp p hp).1).mean ((bd_at h).mp hb _ (hM.sp p hp).2.1)) fun r hr q hq => (hb r hr q hq).mul (by decide)
  intro r hr q hq
  unfold beatL rollL at hr
  obtain ⟨r', hr', rfl⟩ := List.mem_map.mp hr
  refine hs r' hr' q ?_
  unfold rollR at hq
  rcases List.mem_append.mp hq with z | z
  · exact List.mem_of_mem_drop z
  · exact List.mem_of_mem_take z
theorem bd_it {M : Mach} (hM : MOk M) {d n : Nat} {L : List (List Rat)} (h : LOk M.cs L) (hb : BdL d n L) : ∀ k, BdL (d * 2 ^ k) n (itB M k L)
  | 0 => by rw [Nat.pow_zero, Nat.mul_one]; exact hb
  | k + 1 => by
    have := bd_beat hM (it_ok h k) (bd_it hM h hb k)
    rw [Nat.pow_succ, ← Nat.mul_assoc]
    exact this
theorem sz_it {M : Mach} (hM : MOk M) {d n k : Nat} {L : List (List Rat)} (h : LOk M.cs L) (hb : BdL d n L) (m : Nat) (h1 : n * (d * 2 ^ m) < 2 ^ k) (h2 : d * 2 ^ m < 2 ^ k) : ∀ i, i ≤ m → SzL k (itB M i L) := fun i hi => by
  have hp : 2 ^ i ≤ 2 ^ m := Nat.pow_le_pow_right (by decide) hi
  exact (bd_it hM h hb i).sz (Nat.lt_of_le_of_lt (Nat.mul_le_mul_left _ (Nat.mul_le_mul_left _ hp)) h1) (Nat.lt_of_le_of_lt (Nat.mul_le_mul_left _ hp) h2)
theorem bd_add {cs : List Nat} {d n n' : Nat} {L L' : List (List Rat)} (h : LOk cs L) (h' : LOk cs L') (hb : BdL d n L) (hb' : BdL d n' L') : BdL d (n + n') (addL L L') :=
  (bd_at (add_ok h h')).mpr fun s hs => by
    rw [at_add h h' hs]
    exact ((bd_at h).mp hb s hs).add ((bd_at h').mp hb' s hs)
theorem bd_scale {cs : List Nat} {d n d' n' : Nat} {L : List (List Rat)} {c : Rat} (h : LOk cs L) (hb : BdL d n L) (hc : Bd d' n' c) : BdL (d * d') (n * n') (scaleL L c) :=
  (bd_at (scale_ok h)).mpr fun s hs => by
    rw [at_scale h hs]
    exact ((bd_at h).mp hb s hs).times hc
end Ewl

set_option maxRecDepth 100000
set_option maxHeartbeats 8000000
set_option exponentiation.threshold 10000
namespace Ewl
open PySem L2
theorem at_last {α : Type} (xs : List α) (x : α) : atI (xs ++ [x]) (-1) = some x := by
  unfold atI ixN
  rw [if_neg (by decide), if_pos (by simp; omega)]
  have : (-1 + (((xs ++ [x]).length : Nat) : Int)).toNat = xs.length := by rw [List.length_append, List.length_singleton]; omega
  show (xs ++ [x])[(-1 + (((xs ++ [x]).length : Nat) : Int)).toNat]? = some x
  rw [this]
  simp
theorem it_ok' {M : Mach} {L : List (List Rat)} (h : LOk M.cs L) (n : Nat) : LOk M.cs (itB M n L) := it_ok h n
theorem sq_sz {M : Mach} {L : List (List Rat)} (hM : MOk M) (hL : LOk M.cs L) (hz : SzL 45 L) : Sz 3000 (squaresL L) := by
  have hfl := flat_len hL
  have hsum := hM.sum
  refine (sz_sum (k := 90) fun q hq => ?_).mono ?_
  · obtain ⟨p, hp, rfl⟩ := List.mem_map.mp hq
    obtain ⟨r, hr', hq'⟩ := mem_flat hp
    exact sz_times (hz r hr' p hq') (hz r hr' p hq')
  · rw [List.length_map]
    have := Nat.mul_le_mul_right 91 (show L.flatten.length ≤ 30 by omega)
    omega
theorem met_sz {M : Mach} {L : List (List Rat)} (hM : MOk M) (hL : LOk M.cs L) (hz : SzL 45 L) : Sz 3000 (metL M L) := by
  have h8 := hM.tl
  refine (sz_sum (k := 183) fun q hq => ?_).mono ?_
  · obtain ⟨p, hp, rfl⟩ := List.mem_map.mp hq
    obtain ⟨s1, s2, _⟩ := hM.sp p hp
    obtain ⟨r1, a1, b1, m1, n1⟩ := hL.at s1
    obtain ⟨r2, a2, b2, m2, n2⟩ := hL.at s2
    have zg : Sz 91 (atL L p.1 + -atL L p.2) := sz_plus (hz _ m1 _ n1) (sz_neg (hz _ m2 _ n2))
    exact sz_half (sz_times zg zg)
  · rw [List.length_map]
    have := Nat.mul_le_mul_right 184 (show M.ts.length ≤ 8 by omega)
    omega
theorem sh_told (M : Mach) (L : List (List Rat)) (n : Nat) : Sh 3 (.list (toldL M L n)) := sh_lst fun d hd => by
  obtain ⟨i, _, rfl⟩ := List.mem_map.mp hd
  exact sh_rowD _
section
variable {P : Program} {w : World} {K : PySem.W.Frag} {mg : Str → Option Value} {base : Heap}
/-- the program's defs on loads -/
structure FL (P : Program) (w : World) (K : PySem.W.Frag) (mg : Str → Option Value) (base : Heap) : Prop where
  needLoad : Fn P w K mg base "need_load" 6 (spD K gNeedLoad)
  isLoad : Fn P w K mg base "is_load" 7 (spD K gIsLoad)
  empty : Fn P w K mg base "empty" 6 (spD K gEmpty)
  oneAt : Fn P w K mg base "one_at" 7 (spD K gOneAt)
  added : Fn P w K mg base "added" 7 (spD K gAdded)
  scaled : Fn P w K mg base "scaled" 7 (spD K gScaled)
  held : Fn P w K mg base "held" 7 (spD K gHeld)
  squares : Fn P w K mg base "squares" 7 (spD K gSquares)
  read : Fn P w K mg base "read" 7 (spD K gRead_)
  beat : Fn P w K mg base "beat" 7 (spD K gBeat_)
  behind : Fn P w K mg base "behind" 7 (spD K gBehind)
  readings : Fn P w K mg base "readings" 7 (spD K gReadings)
  spots : Fn P w K mg base "spots" 6 (spD K gSpots)
  plus : Fn P w K mg base "plus" 2 (spD K gPlus)
  less : Fn P w K mg base "less" 2 (spD K gLess)
  times : Fn P w K mg base "times" 2 (spD K gTimes)
  half : Fn P w K mg base "half" 2 (spD K gHalf)
  fraction : Fn P w K mg base "fraction" 2 (spD K gFraction)
/-- the law's own -/
structure FW (P : Program) (w : World) (K : PySem.W.Frag) (mg : Str → Option Value) (base : Heap) : Prop where
  read : Fn P w K mg base "_law_read" 3 (spD K gRead_)
  beat : Fn P w K mg base "_law_beat" 4 (spD K gBeat_)
  squares : Fn P w K mg base "_law_squares" 3 (spD K gLSquares)
  met : Fn P w K mg base "_law_met" 3 (spD K gLMet)
  draw : Fn P w K mg base "_law_draw" 1 (spK K gDraw)
  digit : Fn P w K mg base "_law_digit" 2 (spS K gDigit)
  machine : Fn P w K mg base "_law_machine" 4 (spS K gLMachine)
  load : Fn P w K mg base "_law_load" 3 (spS K gLLoad)
def gGoes (ds : List PyData) (z : PyData) : Prop := ∃ (M : Mach) (L : List (List Rat)) (n : Nat), MOk M ∧ LOk M.cs L ∧ n ≤ 12 ∧ (∀ i, i ≤ n → SzL 45 (itB M i L)) ∧ ds = [mD M, lD L, .int (n : Nat)] ∧ z = .bool true
theorem sc_goes : FnScope ["machine", "load", "beats", "here", "told", "most", "turn", "after", "gone", "cut"] ["machine", "load", "beats"] (defScope (top 62)) := ⟨rfl, rfl, rfl, by decide +kernel, rfl, by decide +kernel, by decide +kernel⟩
theorem ok_goes {f : Addr} {fd : FuncData} (F : Fun K "_law_goes_right" "_law_goes_right" (top 62) f fd) (T : Tx mg) (A1 : FL P w K mg base) (B1 : FW P w K mg base) : FnOk P w K mg base CX0 8 f fd ["machine", "load", "beats"] (spD K gGoes) := by
  refine okD F sc_goes (fun ds z ⟨_, _, _, _, _, _, _, e, _⟩ => by rw [e]; rfl) fun cdv A outer s H E hr ds z ⟨M, L, n, hM, hL, hn, hz, e1, e2⟩ => ?_
  subst e1 e2
  have hr3 := hr.mono (show 3 ≤ 7 by decide)
  have hr4 := hr.mono (show 4 ≤ 7 by decide)
  have hr2 := hr.mono (show 2 ≤ 7 by decide)
  have z0 := hz 0 (Nat.zero_le _)
  refine ⟨_, sv_nx (st_par3 (i := 3) (j := 4) (l := 5) (ev_var (i := 1) rfl rfl) (ev_call A1.squares hr (ea_cons (ev_var (i := 0) rfl rfl) (ea_cons (ev_var (i := 1) rfl rfl) ea_nil)) ⟨M, L, hM, hL, z0, rfl, rfl⟩) rfl rfl rfl (by decide) (by decide) (by decide) (by simp) (by simp) (by simp) sc_goes.nd)
    (sv_nx (st_ifF (et_cmp (op_neD hr.u64) (ev_var (i := 5) rfl rfl) (ev_call B1.squares hr3 (ea_cons (ev_var (i := 1) rfl rfl) ea_nil) ⟨M, L, hM, hL, z0, rfl, rfl⟩) (rd_neSame (sh_fD _))) sv_nil)
    (sv_nx (St1.to (s2 := [.d (mD M), .d (lD L), .d (.int (n : Nat)), .d (lD (itB M n L)), .l (toldL M L n), .d (fD (squaresL L)), .x, .x, .x, .x])
      (st_for (S := fun i => [.d (mD M), .d (lD L), .d (.int (n : Nat)), .d (lD (itB M i L)), .l (toldL M L i), .d (fD (squaresL L)), .x, .x, .x, .x]) (items := rngD 0 n) (ei_rng1 (j := n) (ea_cons (ev_var (i := 2) rfl rfl) ea_nil) T.range (by omega)) ?_) ?_)
    (sv_frz (i := 4) rfl
    (sv_nx (st_ifF (EvT.to (EvP.et (ep_or (et_cmp (op_neD hr.u64) (ev_call A1.behind hr (ea_cons (ev_var (i := 0) rfl rfl) (ea_cons (ev_var (i := 1) rfl rfl) (ea_cons (ev_var (i := 2) rfl rfl) ea_nil))) ⟨M, L, n, hM, hL, by omega, fun i hi => (hz i (by omega)).mono (by decide), rfl, rfl⟩) (ev_var (i := 3) rfl rfl) (rd_neSame (sh_lD _))) fun _ =>
        ep_or1 (et_cmp (op_neD hr.u64) (ev_call A1.readings hr (ea_cons (ev_var (i := 0) rfl rfl) (ea_cons (ev_var (i := 1) rfl rfl) (ea_cons (ev_var (i := 2) rfl rfl) ea_nil))) ⟨M, L, n, hM, hL, by omega, fun i hi => (hz i (by omega)).mono (by decide), rfl, rfl⟩) (ev_var (i := 4) rfl rfl) (rd_neSame (sh_told M L n))))) rfl) sv_nil)
    (sv_nx (st_asg (d := .int ((n / 2 : Nat) : Int)) (Ev.to (ev_bin op_fdiv (ev_var (i := 2) rfl rfl) ev_int (rd_intC ⟨by decide, by decide⟩)) ?_) (i := 9) rfl (by simp) sc_goes.nd)
    (sv_ret (st_ret (ev_cmp (op_eqD hr.u64) (ev_call A1.behind hr (ea_cons (ev_var (i := 0) rfl rfl) (ea_cons (ev_call A1.behind hr (ea_cons (ev_var (i := 0) rfl rfl) (ea_cons (ev_var (i := 1) rfl rfl) (ea_cons (ev_var (i := 9) rfl rfl) ea_nil))) ⟨M, L, n / 2, hM, hL, by omega, fun i hi => (hz i (by omega)).mono (by decide), rfl, rfl⟩)
        (ea_cons (d := .int ((n - n / 2 : Nat) : Int)) (Ev.to (ev_bin op_sub (ev_var (i := 2) rfl rfl) (ev_var (i := 9) rfl rfl) rd_int) ?_) ea_nil))) ⟨M, itB M (n / 2) L, n - n / 2, hM, it_ok' hL _, by omega, fun i hi => ?_, rfl, ?_⟩) (ev_var (i := 3) rfl rfl) (rd_eqSame (sh_lD (itB M n L))))))))))) ⟩
  · intro i d hd
    obtain ⟨hi, rfl⟩ := rng_item hd
    have hLi := it_ok' hL i
    have hLa := it_ok' hL (i + 1)
    have zi := hz i (by omega)
    have za := hz (i + 1) (by omega)
    have za' : SzL 45 (beatL M (itB M i L)) := za
    have hLa' : LOk M.cs (beatL M (itB M i L)) := hLa
    refine ⟨_, _, tg_name (i := 6) rfl (by simp) sc_goes.nd, Sv.to
      (sv_nx (st_app (i := 4) (xs := toldL M L i) rfl rfl (ev_call B1.read hr3 (ea_cons (ev_var (i := 0) rfl rfl) (ea_cons (ev_var (i := 3) rfl rfl) ea_nil)) ⟨M, itB M i L, hM, hLi, zi.mono (by decide), rfl, rfl⟩) rfl ?_)
      (sv_nx (st_par (i := 7) (j := 8) (ea_cons (ev_call B1.beat hr4 (ea_cons (ev_var (i := 0) rfl rfl) (ea_cons (ev_var (i := 3) rfl rfl) ea_nil)) ⟨M, itB M i L, hM, hLi, zi.mono (by decide), rfl, rfl⟩) (ea_cons (ev_call B1.met hr3 (ea_cons (ev_var (i := 0) rfl rfl) (ea_cons (ev_var (i := 3) rfl rfl) ea_nil)) ⟨M, itB M i L, hM, hLi, zi, rfl, rfl⟩) ea_nil)) rfl rfl (by decide) (by simp) (by simp) sc_goes.nd)
      (sv_nx (st_ifF (EvT.to (EvP.et (ep_or (et_cmp (op_neD hr.u64) (ev_call A1.read hr (ea_cons (ev_var (i := 0) rfl rfl) (ea_cons (ev_var (i := 3) rfl rfl) ea_nil)) ⟨M, itB M i L, hM, hLi, zi.mono (by decide), rfl, rfl⟩) (ev_ixO (i := 4) (xs := toldL M L i ++ [rowD (readL M (itB M i L))]) (k := -1) rfl rfl (ev_neg ev_int) rfl (at_last _ _)) (rd_neSame (sh_rowD _))) fun _ =>
          ep_or1 (et_cmp (op_neD hr.u64) (ev_call A1.beat hr (ea_cons (ev_var (i := 0) rfl rfl) (ea_cons (ev_var (i := 3) rfl rfl) ea_nil)) ⟨M, itB M i L, hM, hLi, zi.mono (by decide), rfl, rfl⟩) (ev_var (i := 7) rfl rfl) (rd_neSame (sh_lD _))))) rfl) sv_nil)
      (sv_nx (st_ifF (et_cmp (op_neD hr.u64) (ev_call A1.held hr (ea_cons (ev_var (i := 0) rfl rfl) (ea_cons (ev_var (i := 7) rfl rfl) ea_nil)) ⟨M, beatL M (itB M i L), hM, hLa', za'.mono (by decide), rfl, rfl⟩) (ev_call A1.held hr (ea_cons (ev_var (i := 0) rfl rfl) (ea_cons (ev_var (i := 1) rfl rfl) ea_nil)) ⟨M, L, hM, hL, z0.mono (by decide), rfl, congrArg fD (held_it hM hL (i + 1))⟩) (rd_neSame (sh_fD _))) sv_nil)
      (sv_nx (st_ifF (et_cmp (op_neD hr.u64) (ev_call A1.plus hr2 (ea_cons (ev_call A1.squares hr (ea_cons (ev_var (i := 0) rfl rfl) (ea_cons (ev_var (i := 7) rfl rfl) ea_nil)) ⟨M, beatL M (itB M i L), hM, hLa', za', rfl, rfl⟩) (ea_cons (ev_var (i := 8) rfl rfl) ea_nil)) ⟨_, _, sq_sz hM hLa' za', met_sz hM hLi zi, rfl, rfl⟩) (ev_call A1.squares hr (ea_cons (ev_var (i := 0) rfl rfl) (ea_cons (ev_var (i := 3) rfl rfl) ea_nil)) ⟨M, itB M i L, hM, hLi, zi, rfl, congrArg fD (squares_beat hM hLi)⟩) (rd_neSame (sh_fD _))) sv_nil)
      (sv_nx (st_asg (ev_var (i := 7) rfl rfl) (i := 3) rfl (by simp) sc_goes.nd) (sv_drop 6 (sv_drop 7 (sv_drop 8 sv_nil))))))))) ?_⟩
    · simp [toldL]; omega
    · rw [told_succ]; rfl
  · rw [rngD_len]
  · rw [Int.natCast_ediv]; rfl
  · congr 1; omega
  · rw [it_add]; exact (hz _ (by omega)).mono (by decide)
  · rw [it_add]; congr 2; omega
end
end Ewl

set_option maxRecDepth 100000
set_option maxHeartbeats 8000000
set_option exponentiation.threshold 10000
namespace Ewl
open PySem L2
theorem zip3_item {xs ys zs : List PyData} {i : Nat} {d : PyData} (h : (zip3D xs ys zs)[i]? = some d) : ∃ x y z, xs[i]? = some x ∧ ys[i]? = some y ∧ zs[i]? = some z ∧ d = .tuple [x, y, z] := by
  unfold zip3D at h
  rw [List.getElem?_zipWith] at h
  cases hx : xs[i]? with
  | none => rw [hx] at h; cases h
  | some x =>
    cases hyz : (ys.zip zs)[i]? with
    | none => rw [hx, hyz] at h; cases h
    | some yz =>
      obtain ⟨h1, h2⟩ := List.getElem?_zip_eq_some.mp hyz
      rw [hx, hyz] at h
      exact ⟨x, yz.1, yz.2, rfl, h1, h2, (Option.some.inj h).symm⟩
theorem szl_at {cs : List Nat} {L : List (List Rat)} {k : Nat} (h : LOk cs L) (e : ∀ s, SpOk cs s → Sz k (atL L s)) : SzL k L := fun r hr q hq => by
  obtain ⟨s, hs, rfl⟩ := mem_at h hr hq
  exact e s hs
theorem at_szl {cs : List Nat} {L : List (List Rat)} {k : Nat} {s : Spot} (h : LOk cs L) (hz : SzL k L) (hs : SpOk cs s) : Sz k (atL L s) := by
  obtain ⟨r, hr, _, hq⟩ := h.spot hs
  exact hz r (List.mem_of_getElem? hr) _ (List.mem_of_getElem? hq)
theorem alone_sz {cs : List Nat} {L : List (List Rat)} {s : Spot} (h : LOk cs L) (hz : SzL 45 L) (hs : SpOk cs s) : SzL 3000 (scaleL (oneL cs s) (atL L s)) := szl_at (scale_ok one_ok) fun t ht => by
  rw [at_scale one_ok ht, at_one hs ht]
  have := at_szl h hz hs
  split
  · rw [Rat.one_mul]; exact this.mono (by decide)
  · rw [Rat.zero_mul]; exact sz_zero (by decide)
theorem acc_sz {cs : List Nat} {L : List (List Rat)} {ss : List Spot} (h : LOk cs L) (hz : SzL 45 L) (hs : ∀ s ∈ ss, SpOk cs s) (nd : ss.Nodup) : SzL 3000 (accL cs L ss (zeroL cs)) := szl_at (acc_ok zero_ok) fun t ht => by
  rw [at_acc ht zero_ok hs nd, at_zero ht, Rat.zero_add]
  split
  · exact (at_szl h hz ht).mono (by decide)
  · exact sz_zero (by decide)
theorem one_sz {cs : List Nat} {s : Spot} (hs : SpOk cs s) : SzL 3000 (oneL cs s) := szl_at one_ok fun t ht => by
  rw [at_one hs ht]
  split
  · exact sz_one (by decide)
  · exact sz_zero (by decide)
theorem zero_sz {cs : List Nat} : SzL 3000 (zeroL cs) := szl_at zero_ok fun t ht => by rw [at_zero ht]; exact sz_zero (by decide)
theorem scale_sz {cs : List Nat} {L : List (List Rat)} {c : Rat} (h : LOk cs L) (hz : SzL 45 L) (hc : Sz 45 c) : SzL 3000 (scaleL L c) := szl_at (scale_ok h) fun t ht => by
  rw [at_scale h ht]; exact (sz_times (at_szl h hz ht) hc).mono (by decide)
section
variable {P : Program} {w : World} {K : PySem.W.Frag} {mg : Str → Option Value} {base : Heap}
def gAdds (ds : List PyData) (z : PyData) : Prop := ∃ (M : Mach) (L L' : List (List Rat)) (c : Rat) (n : Nat), MOk M ∧ LOk M.cs L ∧ LOk M.cs L' ∧ n ≤ 12 ∧ Sz 45 c ∧ (∀ i, i ≤ n → SzL 45 (itB M i L) ∧ SzL 45 (itB M i L') ∧ SzL 45 (itB M i (addL L (scaleL L' c)))) ∧
  ds = [mD M, lD L, lD L', fD c, .int (n : Nat)] ∧ z = .bool true
theorem sc_adds : FnScope ["machine", "load", "other", "by", "beats", "both", "row", "one", "far", "x", "y", "due", "found", "wheel", "at", "alone"] ["machine", "load", "other", "by", "beats"] (defScope (top 63)) := ⟨rfl, rfl, rfl, by decide +kernel, rfl, by decide +kernel, by decide +kernel⟩
theorem ok_adds {f : Addr} {fd : FuncData} (F : Fun K "_law_adds_right" "_law_adds_right" (top 63) f fd) (T : Tx mg) (A1 : FL P w K mg base) : FnOk P w K mg base CX0 8 f fd ["machine", "load", "other", "by", "beats"] (spD K gAdds) := by
  refine okD F sc_adds (fun ds z ⟨_, _, _, _, _, _, _, _, _, _, _, e, _⟩ => by rw [e]; rfl) fun cdv A outer s H E hr ds z ⟨M, L, L', c, n, hM, hL, hL', hn, hc, hz, e1, e2⟩ => ?_
  subst e1 e2
  have hr2 := hr.mono (show 2 ≤ 7 by decide)
  have hr6 := hr.mono (show 6 ≤ 7 by decide)
  obtain ⟨z0, z0', zb0⟩ := hz 0 (Nat.zero_le _)
  have z0 : SzL 45 L := z0
  have z0' : SzL 45 L' := z0'
  have hS := scale_ok (c := c) hL'
  have hB : LOk M.cs (addL L (scaleL L' c)) := add_ok hL hS
  have zS := scale_sz hL' z0' hc
  have hLn := it_ok' hL n
  have hLn' := it_ok' hL' n
  obtain ⟨zn, zn', zbn⟩ := hz n (Nat.le_refl _)
  have c3 : Sz 3000 c := hc.mono (by decide)
  have spOk : ∀ s ∈ (spotsL M.cs).flatten, SpOk M.cs s := fun s hs => spots_mem.mp hs
  refine ⟨_, sv_nx (st_asg (d := lD (addL L (scaleL L' c))) (ev_call A1.added hr (ea_cons (ev_var (i := 0) rfl rfl) (ea_cons (ev_var (i := 1) rfl rfl) (ea_cons (ev_call A1.scaled hr (ea_cons (ev_var (i := 0) rfl rfl) (ea_cons (ev_var (i := 2) rfl rfl) (ea_cons (ev_var (i := 3) rfl rfl) ea_nil))) ⟨M, L', c, hM, hL', z0'.mono (by decide), c3, rfl, rfl⟩) ea_nil))) ⟨M, L, scaleL L' c, hM, hL, hS, z0.mono (by decide), zS, rfl, rfl⟩) (i := 5) rfl (by simp) sc_adds.nd)
    (sv_nx (st_for (S := fun _ => [.d (mD M), .d (lD L), .d (lD L'), .d (fD c), .d (.int (n : Nat)), .d (lD (addL L (scaleL L' c))), .x, .x, .x, .x, .x, .x, .x, .x, .x, .x]) (items := zip3D ((addL L (scaleL L' c)).map rowD) (L.map rowD) (L'.map rowD))
      (ei_zip3 (ds := (addL L (scaleL L' c)).map rowD) (es := L.map rowD) (fs := L'.map rowD) (ea_cons (ev_var (i := 5) rfl rfl) (ea_cons (ev_var (i := 1) rfl rfl) (ea_cons (ev_var (i := 2) rfl rfl) ea_nil))) ?_ ?_ T.zip) ?_)
    (sv_nx (st_asg (d := lD (addL (itB M n L) (scaleL (itB M n L') c))) (ev_call A1.added hr (ea_cons (ev_var (i := 0) rfl rfl) (ea_cons (ev_call A1.behind hr (ea_cons (ev_var (i := 0) rfl rfl) (ea_cons (ev_var (i := 1) rfl rfl) (ea_cons (ev_var (i := 4) rfl rfl) ea_nil))) ⟨M, L, n, hM, hL, by omega, fun i hi => (hz i (by omega)).1.mono (by decide), rfl, rfl⟩)
        (ea_cons (ev_call A1.scaled hr (ea_cons (ev_var (i := 0) rfl rfl) (ea_cons (ev_call A1.behind hr (ea_cons (ev_var (i := 0) rfl rfl) (ea_cons (ev_var (i := 2) rfl rfl) (ea_cons (ev_var (i := 4) rfl rfl) ea_nil))) ⟨M, L', n, hM, hL', by omega, fun i hi => (hz i (by omega)).2.1.mono (by decide), rfl, rfl⟩) (ea_cons (ev_var (i := 3) rfl rfl) ea_nil))) ⟨M, itB M n L', c, hM, hLn', zn'.mono (by decide), c3, rfl, rfl⟩) ea_nil)))
        ⟨M, itB M n L, scaleL (itB M n L') c, hM, hLn, scale_ok hLn', zn.mono (by decide), scale_sz hLn' zn' hc, rfl, rfl⟩) (i := 11) rfl (by simp) sc_adds.nd)
    (sv_nx (st_ifF (EvT.to (EvP.et (ep_or (et_cmp (op_neD hr.u64) (ev_call A1.behind hr (ea_cons (ev_var (i := 0) rfl rfl) (ea_cons (ev_var (i := 5) rfl rfl) (ea_cons (ev_var (i := 4) rfl rfl) ea_nil))) ⟨M, addL L (scaleL L' c), n, hM, hB, by omega, fun i hi => (hz i (by omega)).2.2.mono (by decide), rfl, congrArg lD (it_lin hM hL hL' n).symm⟩) (ev_var (i := 11) rfl rfl) (rd_neSame (sh_lD _))) fun _ =>
        ep_or1 (et_cmp (op_neD hr.u64) (ev_call A1.added hr (ea_cons (ev_var (i := 0) rfl rfl) (ea_cons (ev_var (i := 1) rfl rfl) (ea_cons (ev_call A1.empty hr6 (ea_cons (ev_var (i := 0) rfl rfl) ea_nil) ⟨M, hM, rfl, rfl⟩) ea_nil))) ⟨M, L, zeroL M.cs, hM, hL, zero_ok, z0.mono (by decide), zero_sz, rfl, congrArg lD (add_zero' hL).symm⟩) (ev_var (i := 1) rfl rfl) (rd_neSame (sh_lD _))))) rfl) sv_nil)
    (sv_nx (st_asg (ev_call A1.empty hr6 (ea_cons (ev_var (i := 0) rfl rfl) ea_nil) ⟨M, hM, rfl, rfl⟩) (i := 12) rfl (by simp) sc_adds.nd)
    (sv_nx (St1.to (s2 := [.d (mD M), .d (lD L), .d (lD L'), .d (fD c), .d (.int (n : Nat)), .d (lD (addL L (scaleL L' c))), .x, .x, .x, .x, .x, .d (lD (addL (itB M n L) (scaleL (itB M n L') c))), .d (lD L), .x, .x, .x])
      (st_for (S := fun i => [.d (mD M), .d (lD L), .d (lD L'), .d (fD c), .d (.int (n : Nat)), .d (lD (addL L (scaleL L' c))), .x, .x, .x, .x, .x, .d (lD (addL (itB M n L) (scaleL (itB M n L') c))), .d (lD (accL M.cs L ((spotsL M.cs).flatten.take i) (zeroL M.cs))), .x, .x, .x]) (items := (spotsL M.cs).flatten.map sD) (ei_tup (ev_call A1.spots hr6 (ea_cons (ev_var (i := 0) rfl rfl) ea_nil) ⟨M, hM, rfl, rfl⟩)) ?_) ?_)
    (sv_ret (st_ret (ev_cmp (op_eqD hr.u64) (ev_var (i := 12) rfl rfl) (ev_var (i := 1) rfl rfl) (rd_eqSame (sh_lD _))))))))))⟩
  · rw [List.length_map, List.length_map, hB.len, hL.len]
  · rw [List.length_map, List.length_map, hB.len, hL'.len]
  · intro i d hd
    obtain ⟨x1, x2, x3, g1, g2, g3, rfl⟩ := zip3_item hd
    obtain ⟨rb, h1, rfl⟩ := map_get g1
    obtain ⟨r, h2, rfl⟩ := map_get g2
    obtain ⟨r', h3, rfl⟩ := map_get g3
    have hlen := hL.rows hL' h2 h3
    have h30 := hL.row30 hM h2
    have eb : rb = List.zipWith (fun x y => x + y * c) r r' := by
      have : (addL L (scaleL L' c))[i]? = some (List.zipWith (fun x y => x + y * c) r r') := by
        unfold addL scaleL
        simp [List.getElem?_zipWith, h2, h3, List.zipWith_map_right]
      rw [this] at h1; exact (Option.some.inj h1).symm
    subst eb
    refine ⟨_, _, tg_tup (tgs_cons (tg_name (i := 6) rfl (by simp) sc_adds.nd) (tgs_cons (tg_name (i := 7) rfl (by simp) sc_adds.nd) (tgs_cons (tg_name (i := 8) rfl (by simp) sc_adds.nd) tgs_nil))),
      Sv.to (sv_nx (st_ifF (et_cmp (op_neD hr.u64) (EvL.ev (el_callTy call_list_of (ea_cons (ev_var (i := 6) rfl rfl) ea_nil) rcl_listT T.list)) (EvL.ev (el_lc (S := fun _ => [.d (mD M), .d (lD L), .d (lD L'), .d (fD c), .d (.int (n : Nat)), .d (lD (addL L (scaleL L' c))), .d (rowD (List.zipWith (fun x y => x + y * c) r r')), .d (rowD r), .d (rowD r'), .x, .x, .x, .x, .x, .x, .x]) (ys := (List.zipWith (fun x y => x + y * c) r r').map fD) (own := [("x", 9), ("y", 10)])
        (ei_zipT (ds := r.map fD) (es := r'.map fD) (ea_cons (ev_var (i := 7) rfl rfl) (ea_cons (ev_var (i := 8) rfl rfl) ea_nil)) ?_ T.zip) (blkOk_by (N := ["machine", "load", "other", "by", "beats", "both", "row", "one", "far", "x", "y", "due", "found", "wheel", "at", "alone"]) (sc := defScope (top 63)) (by decide +kernel)) rfl ?_ ?_ ?_ sc_adds.nd)) (rd_neSame (sh_lst (n := 1) fun d hd => ?_))) sv_nil) (sv_drop 6 (sv_drop 7 (sv_drop 8 sv_nil)))) rfl⟩
    · simp [hlen]
    · simp [zipD_len]
    · simp [zipD_len]; omega
    · intro j d y hd hy
      obtain ⟨x1, x2, g1, g2, rfl⟩ := zip_item hd
      obtain ⟨p, q1, rfl⟩ := map_get g1
      obtain ⟨q, q2, rfl⟩ := map_get g2
      have ey : y = fD (p + q * c) := by
        have : ((List.zipWith (fun x y => x + y * c) r r').map fD)[j]? = some (fD (p + q * c)) := by simp [List.getElem?_zipWith, q1, q2]
        rw [this] at hy; exact (Option.some.inj hy).symm
      subst ey
      have zp := z0 r (List.mem_of_getElem? h2) p (List.mem_of_getElem? q1)
      have zq := z0' r' (List.mem_of_getElem? h3) q (List.mem_of_getElem? q2)
      exact ⟨_, [9, 10], _, fun j hj => hj, rfl, fun s' H' C cl fp => ⟨tg_tup (tgs_cons (tg_name (i := 9) rfl (by simp) sc_adds.nd) (tgs_cons (tg_name (i := 10) rfl (by simp) sc_adds.nd) tgs_nil)),
        ev_call A1.plus hr2 (ea_cons (ev_var (i := 9) rfl rfl) (ea_cons (ev_call A1.times hr2 (ea_cons (ev_var (i := 10) rfl rfl) (ea_cons (ev_var (i := 3) rfl rfl) ea_nil)) ⟨q, c, zq.mono (by decide), c3, rfl, rfl⟩) ea_nil)) ⟨p, q * c, zp.mono (by decide), (sz_times zq hc).mono (by decide), rfl, rfl⟩⟩⟩
    · obtain ⟨q, _, rfl⟩ := List.mem_map.mp hd
      exact sh_fD q
  · intro i d hd
    obtain ⟨sp, h1, rfl⟩ := map_get hd
    have hs := spOk sp (List.mem_of_getElem? h1)
    obtain ⟨r1, a1, b1, m1, n1⟩ := hL.at hs
    have hacc : LOk M.cs (accL M.cs L ((spotsL M.cs).flatten.take i) (zeroL M.cs)) := acc_ok zero_ok
    have zacc := acc_sz hL z0 (fun s hs => spOk s (List.mem_of_mem_take hs)) ((List.take_sublist i _).nodup (spots_nd M.cs))
    refine ⟨_, _, tg_tup (tgs_cons (tg_name (i := 13) rfl (by simp) sc_adds.nd) (tgs_cons (tg_name (i := 14) rfl (by simp) sc_adds.nd) tgs_nil)),
      Sv.to (sv_nx (st_asg (ev_call A1.scaled hr (ea_cons (ev_var (i := 0) rfl rfl) (ea_cons (ev_call A1.oneAt hr (ea_cons (ev_var (i := 0) rfl rfl) (ea_cons (ev_tup (ea_cons (ev_var (i := 13) rfl rfl) (ea_cons (ev_var (i := 14) rfl rfl) ea_nil))) ea_nil)) ⟨M, sp, hM, hs, rfl, rfl⟩) (ea_cons (ev_ix ix_tup (ev_ix ix_tup (ev_var (i := 1) rfl rfl) (ev_var (i := 13) rfl rfl) (rd_ixT a1)) (ev_var (i := 14) rfl rfl) (rd_ixT b1)) ea_nil))) ⟨M, oneL M.cs sp, atL L sp, hM, one_ok, one_sz hs, (at_szl hL z0 hs).mono (by decide), rfl, rfl⟩) (i := 15) rfl (by simp) sc_adds.nd)
      (sv_nx (st_asg (ev_call A1.added hr (ea_cons (ev_var (i := 0) rfl rfl) (ea_cons (ev_var (i := 12) rfl rfl) (ea_cons (ev_var (i := 15) rfl rfl) ea_nil))) ⟨M, _, _, hM, hacc, scale_ok one_ok, zacc, alone_sz hL z0 hs, rfl, rfl⟩) (i := 12) rfl (by simp) sc_adds.nd) (sv_drop 13 (sv_drop 14 (sv_drop 15 sv_nil))))) ?_⟩
    rw [take_more h1, acc_app]; rfl
  · rw [List.length_map, List.take_length, acc_all hL]
end
end Ewl

set_option maxRecDepth 100000
set_option maxHeartbeats 8000000
set_option exponentiation.threshold 10000
namespace Ewl
open PySem L2
theorem slice_take3 (xs : List PyData) : sliceD xs none (some 3) = xs.take 3 := by
  unfold sliceD HT.sIx
  match xs with
  | [] => rfl
  | [_] => rfl
  | [_, _] => rfl
  | a :: b :: c :: xs => simp
theorem by_bd {t b : Int} (h1 : -9 ≤ t) (h2 : t ≤ 9) (h3 : 1 ≤ b) (h4 : b ≤ 5) : Bd 60 9 (Rat.divInt t b) := by
  have hb : b = 1 ∨ b = 2 ∨ b = 3 ∨ b = 4 ∨ b = 5 := by omega
  rcases hb with rfl | rfl | rfl | rfl | rfl
  · exact ⟨by decide, t * 60, by rw [show (1 : Int) = ((1 : Nat) : Int) from rfl, Rat.divInt_ofNat, Rat.mkRat_eq_iff (by decide) (by decide)]; push_cast; omega, by omega⟩
  · exact ⟨by decide, t * 30, by rw [show (2 : Int) = ((2 : Nat) : Int) from rfl, Rat.divInt_ofNat, Rat.mkRat_eq_iff (by decide) (by decide)]; push_cast; omega, by omega⟩
  · exact ⟨by decide, t * 20, by rw [show (3 : Int) = ((3 : Nat) : Int) from rfl, Rat.divInt_ofNat, Rat.mkRat_eq_iff (by decide) (by decide)]; push_cast; omega, by omega⟩
  · exact ⟨by decide, t * 15, by rw [show (4 : Int) = ((4 : Nat) : Int) from rfl, Rat.divInt_ofNat, Rat.mkRat_eq_iff (by decide) (by decide)]; push_cast; omega, by omega⟩
  · exact ⟨by decide, t * 12, by rw [show (5 : Int) = ((5 : Nat) : Int) from rfl, Rat.divInt_ofNat, Rat.mkRat_eq_iff (by decide) (by decide)]; push_cast; omega, by omega⟩
theorem by_sz {q : Rat} (h : Bd 60 9 q) : Sz 45 q := h.sz (by decide) (by decide)
theorem sub_self' (c : Rat) : c - c = 0 := by grind
theorem half_half (c : Rat) : c / 2 + c / 2 = c := by grind
theorem load_all {span : Int} {cs : List Nat} {s : DS} : LOk cs (llX span cs s).2 := by
  have := load_ok (span := span) (cs := cs) (s := s) cs.length (Nat.le_refl _)
  rwa [List.take_length] at this
theorem load_dall {b : Nat} {span : Int} {cs : List Nat} {s : DS} (h : DOk b s) : DOk (b + 2 * cs.sum) (llX span cs s).1 := by
  have := load_dok (span := span) (cs := cs) h cs.length (Nat.le_refl _)
  rwa [List.take_length] at this
section
variable {P : Program} {w : World} {K : PySem.W.Frag} {mg : Str → Option Value} {base : Heap}
def gLaw (ds : List PyData) (z : PyData) : Prop := ∃ ns : List Int, ds = [.list (ns.map .int)] ∧ z = .bool true
theorem sc_law : FnScope ["script", "k", "cell", "state", "machine", "load", "other", "by"] ["script"] (defScope (top 64)) := ⟨rfl, rfl, rfl, by decide +kernel, rfl, by decide +kernel, by decide +kernel⟩
theorem ok_law {f : Addr} {fd : FuncData} (F : Fun K "law" "law" (top 64) f fd) (T : Tx mg) (A1 : FL P w K mg base) (B1 : FW P w K mg base) (f1 : Fn P w K mg base "_law_goes_right" 8 (spD K gGoes)) (f2 : Fn P w K mg base "_law_adds_right" 8 (spD K gAdds)) : FnOk P w K mg base CX0 9 f fd ["script"] (spD K gLaw) := by
  refine okD F sc_law (fun ds z ⟨_, e, _⟩ => by rw [e]; rfl) fun cdv A outer s H E hr ds z ⟨ns, e1, e2⟩ => ?_
  subst e1 e2
  have hr1 := hr.mono (show 1 ≤ 8 by decide)
  have hr2 := hr.mono (show 2 ≤ 8 by decide)
  have hr3 := hr.mono (show 3 ≤ 8 by decide)
  have hr4 := hr.mono (show 4 ≤ 8 by decide)
  have hr6 := hr.mono (show 6 ≤ 8 by decide)
  have hr7 := hr.mono (show 7 ≤ 8 by decide)
  refine ⟨_, sv_nx (st_for (S := fun _ => [.d (.list (ns.map .int)), .x, .x, .x, .x, .x, .x, .x]) (items := enumD 0 ((ns.take 3 ++ [ns.sum]).map .int)) (ei_enumL (ea_cons (Ev.to (EvL.ev (el_cat (el_sliceT (ev_var (i := 0) rfl rfl)) (el_lst (ea_cons (ev_callB (cr_sum rfl) (ea_cons (ev_var (i := 0) rfl rfl) ea_nil) rc_sumL T.sum) ea_nil)) ?_)) ?_) ea_nil) T.enum) ?_)
    (sv_ret (st_ret ev_bl))⟩
  · rw [slice_take3, List.length_take]; simp; omega
  · rw [slice_take3, List.map_append, List.map_take]; rfl
  · intro i d hd
    obtain ⟨x, hx, rfl⟩ := enum_item hd
    obtain ⟨cell, hc, rfl⟩ := map_get hx
    have hi : i < 4 := by
      have h1 := (List.getElem?_eq_some_iff.mp hc).1
      rw [List.length_append, List.length_take, List.length_singleton] at h1
      omega
    have d1 : DOk 1000 (startS cell (i : Nat)) := by unfold DOk startS; simp only; omega
    obtain ⟨d2, hM, h18⟩ := lm_ok d1
    generalize hMM : (lmX (startS cell (i : Nat))).2 = M at hM h18
    have hs30 := hM.sum
    have hl16 := hM.len2
    generalize hs2 : (lmX (startS cell (i : Nat))).1 = s2 at d2
    have d3 := load_dall (span := 9) (cs := M.cs) d2
    have hL : LOk M.cs (llX 9 M.cs s2).2 := load_all
    have bL : BdL 6 9 (llX 9 M.cs s2).2 := load_bd (m := 9) rfl _
    generalize hs3 : (llX 9 M.cs s2).1 = s3 at d3
    generalize hLL : (llX 9 M.cs s2).2 = L at hL bL
    have d4 := load_dall (span := 40) (cs := M.cs) d3
    have hL' : LOk M.cs (llX 40 M.cs s3).2 := load_all
    have bL' : BdL 6 40 (llX 40 M.cs s3).2 := load_bd (m := 40) rfl _
    generalize hs4 : (llX 40 M.cs s3).1 = s4 at d4
    generalize hLL' : (llX 40 M.cs s3).2 = L' at hL' bL'
    have d5 := dig_ok (n := 19) d4
    have d6 := dig_ok (n := 5) d5
    have d7 := dig_ok (n := 13) d6
    have g1 := dig_lt (s := s4) (n := 19) (by decide)
    have g2 := dig_lt (s := digS s4 19) (n := 5) (by decide)
    have g3 := dig_lt (s := digS (digS s4 19) 5) (n := 13) (by decide)
    have g4 := dig_lt (s := digS (digS (digS s4 19) 5) 13) (n := 5) (by decide)
    have bc : Bd 60 9 (Rat.divInt (digI s4 19 - 9) (1 + digI (digS s4 19) 5)) := by_bd (by omega) (by omega) (by omega) (by omega)
    generalize hq : Rat.divInt (digI s4 19 - 9) (1 + digI (digS s4 19) 5) = c at bc
    have zc := by_sz bc
    obtain ⟨n, en⟩ : ∃ n : Nat, digI (digS (digS s4 19) 5) 13 = n := ⟨_, (Int.toNat_of_nonneg g3.1).symm⟩
    obtain ⟨m, em⟩ : ∃ m : Nat, digI (digS (digS (digS s4 19) 5) 13) 5 = m := ⟨_, (Int.toNat_of_nonneg g4.1).symm⟩
    have bB : BdL 360 369 (addL L (scaleL L' c)) := bd_add (n := 9) (n' := 360) hL (scale_ok hL') (fun r hr q hq => (bL r hr q hq).mul (e := 60) (by decide)) (bd_scale hL' bL' bc)
    have zL := sz_it hM hL bL 12 (k := 45) (by decide) (by decide)
    have zL' := sz_it hM hL' bL' 12 (k := 45) (by decide) (by decide)
    have zB := sz_it hM (add_ok hL (scale_ok hL')) bB 12 (k := 45) (by decide) (by decide)
    have zc2 : Sz 3000 (c / 2) := (sz_half zc).mono (by decide)
    refine ⟨_, _, tg_tup (tgs_cons (tg_name (i := 1) rfl (by simp) sc_law.nd) (tgs_cons (tg_name (i := 2) rfl (by simp) sc_law.nd) tgs_nil)),
      Sv.to (sv_nx (st_asgK (i := 3) B1.draw hr1 (ea_cons (ev_var (i := 2) rfl rfl) (ea_cons (ev_var (i := 1) rfl rfl) ea_nil)) ⟨cell, (i : Nat), by omega, by omega, rfl, rfl⟩ rfl (by simp) sc_law.nd)
      (sv_nx (st_asg (d := mD M) (ev_callS (i := 3) (kvs' := dsK s2) B1.machine hr4 (ea_cons ev_int ea_nil) rfl ⟨_, _, rfl⟩ ⟨_, 1000, d1, by decide, rfl, rfl, by rw [hs2], by rw [hMM]⟩ rfl) (i := 4) rfl (by simp) sc_law.nd)
      (sv_nx (st_par (i := 5) (j := 6) (v := lD L) (w := lD L') (ea_cons (ev_callS (i := 3) (kvs' := dsK s3) B1.load hr3 (ea_cons (ev_ix ix_tup (ev_var (i := 4) rfl rfl) ev_int (rd_ixT rfl)) (ea_cons ev_int ea_nil)) rfl ⟨_, _, rfl⟩ ⟨s2, M.cs, 9, _, d2, by omega, hs30, hl16, by decide, by decide, rfl, rfl, by rw [hs3], by rw [hLL]⟩ rfl)
          (ea_cons (ev_callS (i := 3) (kvs' := dsK s4) B1.load hr3 (ea_cons (ev_ix ix_tup (ev_var (i := 4) rfl rfl) ev_int (rd_ixT rfl)) (ea_cons ev_int ea_nil)) rfl ⟨_, _, rfl⟩ ⟨s3, M.cs, 40, _, d3, by omega, hs30, hl16, by decide, by decide, rfl, rfl, by rw [hs4], by rw [hLL']⟩ rfl) ea_nil)) rfl rfl (by decide) (by simp) (by simp) sc_law.nd)
      (sv_nx (st_asg (d := fD c) (ev_call A1.fraction hr2 (ea_cons (ev_bin op_sub (ev_callS (i := 3) B1.digit hr2 (ea_cons ev_int ea_nil) rfl ⟨_, _, rfl⟩ ⟨s4, 19, _, d4, by omega, by decide, by decide, rfl, rfl, rfl, rfl⟩ rfl) ev_int rd_int) (ea_cons (ev_bin op_add ev_int (ev_callS (i := 3) B1.digit hr2 (ea_cons ev_int ea_nil) rfl ⟨_, _, rfl⟩ ⟨digS s4 19, 5, _, d5, by omega, by decide, by decide, rfl, rfl, rfl, rfl⟩ rfl) rd_int) ea_nil)) ⟨_, _, by omega, ?_, rfl, by rw [hq]⟩) (i := 7) rfl (by simp) sc_law.nd)
      (sv_nx (st_ifF (EvT.to (EvP.et (ep_or (et_not (et_val (ev_call A1.isLoad hr7 (ea_cons (ev_var (i := 4) rfl rfl) (ea_cons (ev_var (i := 5) rfl rfl) ea_nil)) ⟨M, L, hM, hL, rfl, rfl⟩))) fun _ => ep_or1 (et_cmp op_notN (ev_call A1.needLoad hr6 (ea_cons (ev_var (i := 4) rfl rfl) (ea_cons (ev_var (i := 6) rfl rfl) ea_nil)) ⟨M, L', hM, hL', rfl, rfl⟩) ev_non rd_notN))) rfl) sv_nil)
      (sv_nx (st_ifF (EvT.to (et_not (et_val (ev_call f1 hr (ea_cons (ev_var (i := 4) rfl rfl) (ea_cons (ev_var (i := 5) rfl rfl) (ea_cons (ev_callS (i := 3) B1.digit hr2 (ea_cons ev_int ea_nil) rfl ⟨_, _, rfl⟩ ⟨digS (digS s4 19) 5, 13, _, d6, by omega, by decide, by decide, rfl, rfl, rfl, rfl⟩ rfl) ea_nil))) ⟨M, L, n, hM, hL, by omega, fun j hj => zL j (by omega), by rw [en], rfl⟩))) rfl) sv_nil)
      (sv_nx (st_ifF (EvT.to (et_not (et_val (ev_call f2 hr (ea_cons (ev_var (i := 4) rfl rfl) (ea_cons (ev_var (i := 5) rfl rfl) (ea_cons (ev_var (i := 6) rfl rfl) (ea_cons (ev_var (i := 7) rfl rfl) (ea_cons (ev_callS (i := 3) B1.digit hr2 (ea_cons ev_int ea_nil) rfl ⟨_, _, rfl⟩ ⟨digS (digS (digS s4 19) 5) 13, 5, _, d7, by omega, by decide, by decide, rfl, rfl, rfl, rfl⟩ rfl) ea_nil))))) ⟨M, L, L', c, m, hM, hL, hL', by omega, zc, fun j hj => ⟨zL j (by omega), zL' j (by omega), zB j (by omega)⟩, by rw [em], rfl⟩))) rfl) sv_nil)
      (sv_nx (st_ifF (EvT.to (EvP.et (ep_or (et_cmp (op_neD hr.u64) (ev_call A1.less hr2 (ea_cons (ev_var (i := 7) rfl rfl) (ea_cons (ev_var (i := 7) rfl rfl) ea_nil)) ⟨c, c, zc.mono (by decide), zc.mono (by decide), rfl, congrArg fD (sub_self' c).symm⟩) (ev_tup (ea_cons ev_int (ea_cons ev_int ea_nil))) (rd_neSame (sh_fD 0))) fun _ =>
          ep_or1 (et_cmp (op_neD hr.u64) (ev_call A1.plus hr2 (ea_cons (ev_call A1.half hr2 (ea_cons (ev_var (i := 7) rfl rfl) ea_nil) ⟨c, zc.mono (by decide), rfl, rfl⟩) (ea_cons (ev_call A1.half hr2 (ea_cons (ev_var (i := 7) rfl rfl) ea_nil) ⟨c, zc.mono (by decide), rfl, rfl⟩) ea_nil)) ⟨c / 2, c / 2, zc2, zc2, rfl, congrArg fD (half_half c).symm⟩) (ev_var (i := 7) rfl rfl) (rd_neSame (sh_fD c))))) rfl) sv_nil)
        (sv_drop 1 (sv_drop 2 (sv_drop 3 (sv_drop 4 (sv_drop 5 (sv_drop 6 (sv_drop 7 sv_nil))))))))))))))) rfl⟩
    exact Nat.lt_of_lt_of_le (show (1 + digI (digS s4 19) 5).natAbs < 2 ^ 3 by omega) (Nat.pow_le_pow_right (by decide) (by decide))
end
end Ewl

set_option maxRecDepth 100000
set_option maxHeartbeats 4000000
namespace Ewl
open PySem L2
/-! ### what the top has written -/
structure DefAt (K : PySem.W.Frag) (x : Str) (i : Nat) : Prop where
  ex : ∃ (f : Addr) (oc : Value) (od : Option Addr) (kV dc pm : Value) (an : Option Addr) (cd ct : Value) (sl : Array (Option Value)),
    PySem.W.nsIn K mainGlobals x = some (some (.ref f)) ∧ K.lookup f = some ⟨oc, od, .func (PySem.W.fnOf x x (defArgs (top i)) (defBody (top i)) (defScope (top i)) .none kV dc pm an cd ct), sl⟩ ∧ PySem.W.codeIn K cd x = true ∧ PySem.W.keepIn K (.ref f) = true
theorem DefAt.mk' {K : PySem.W.Frag} {x : Str} {i : Nat} {f : Addr} {oc : Value} {od : Option Addr} {kV dc pm : Value} {an : Option Addr} {cd ct : Value} {sl : Array (Option Value)}
    (a : PySem.W.nsIn K mainGlobals x = some (some (.ref f))) (l : K.lookup f = some ⟨oc, od, .func (PySem.W.fnOf x x (defArgs (top i)) (defBody (top i)) (defScope (top i)) .none kV dc pm an cd ct), sl⟩) (c : PySem.W.codeIn K cd x = true) (k : PySem.W.keepIn K (.ref f) = true) : DefAt K x i :=
  ⟨f, oc, od, kV, dc, pm, an, cd, ct, sl, a, l, c, k⟩
structure DefAtV (K : PySem.W.Frag) (x : Str) (i : Nat) : Prop where
  ex : ∃ (f : Addr) (oc : Value) (od : Option Addr) (T : Addr) (kV dc pm : Value) (an : Option Addr) (cd ct : Value) (sl : Array (Option Value)) (o : Obj) (tk : Tok) (n : Nat),
    PySem.W.nsIn K mainGlobals x = some (some (.ref f)) ∧ K.lookup f = some ⟨oc, od, .func (PySem.W.fnOf x x (defArgs (top i)) (defBody (top i)) (defScope (top i)) (.ref T) kV dc pm an cd ct), sl⟩ ∧ PySem.W.codeIn K cd x = true ∧ PySem.W.keepIn K (.ref f) = true ∧ K.lookup T = some o ∧ o.data = .seq #[.int 1 tk] n
theorem DefAtV.mk' {K : PySem.W.Frag} {x : Str} {i : Nat} {f : Addr} {oc : Value} {od : Option Addr} {T : Addr} {kV dc pm : Value} {an : Option Addr} {cd ct : Value} {sl : Array (Option Value)} {oc2 : Value} {od2 : Option Addr} {sl2 : Array (Option Value)} {tk : Tok} {n : Nat}
    (a : PySem.W.nsIn K mainGlobals x = some (some (.ref f))) (l : K.lookup f = some ⟨oc, od, .func (PySem.W.fnOf x x (defArgs (top i)) (defBody (top i)) (defScope (top i)) (.ref T) kV dc pm an cd ct), sl⟩) (c : PySem.W.codeIn K cd x = true) (k : PySem.W.keepIn K (.ref f) = true)
    (lT : K.lookup T = some ⟨oc2, od2, .seq #[.int 1 tk] n, sl2⟩) : DefAtV K x i :=
  ⟨f, oc, od, T, kV, dc, pm, an, cd, ct, sl, _, tk, n, a, l, c, k, lT, rfl⟩
structure IntAt (K : PySem.W.Frag) (x : Str) (n : Int) : Prop where
  ex : ∃ t : Tok, PySem.W.nsIn K mainGlobals x = some (some (.int n t))
theorem IntAt.mk' {K : PySem.W.Frag} {x : Str} {n : Int} {t : Tok} (a : PySem.W.nsIn K mainGlobals x = some (some (.int n t))) : IntAt K x n := ⟨t, a⟩
section
variable {P : Program} {w : World} {K : PySem.W.Frag} {mg : Str → Option Value} {base h : Heap}
theorem Fn_of {x : Str} {i k : Nat} {ps : List Str} {sp : Sp} (X : K.In h) (G : h.Ns mainGlobals mg) (D : DefAt K x i)
    (hb : ∀ (kV doc pm : Value) (an : Option Addr) (cdv ct : Value) (us : List Value), us.length = ps.length → bindArgs (PySem.W.fnOf x x (defArgs (top i)) (defBody (top i)) (defScope (top i)) .none kV doc pm an cdv ct) ⟨us, []⟩ = pure (ps.zip us))
    (ok : ∀ {f : Addr} {fd : FuncData}, Fun K x x (top i) f fd → FnOk P w K mg base CX0 k f fd ps sp) : Fn P w K mg base x k sp := by
  obtain ⟨f, oc, od, kV, dc, pm, an, cd, ct, sl, a, l, c, kp⟩ := D.ex
  have F : Fun K x x (top i) f _ := fun_mk (st := top i) l c kp
  exact ⟨f, _, ps, [], rfl, PySem.W.mg_of X G a, kp, ok F, F.binds (ps := ps) hb⟩
theorem Fn_ofV {x : Str} {i k : Nat} {ps : List Str} {sp : Sp} (X : K.In h) (G : h.Ns mainGlobals mg) (D : DefAtV K x i) (h2 : ps.length = 2)
    (hb : ∀ (T : Addr) (kV doc pm : Value) (an : Option Addr) (cdv ct : Value) (us its : List Value), us.length = 2 → its.length = 1 →
      ∃ k, bindArgs (PySem.W.fnOf x x (defArgs (top i)) (defBody (top i)) (defScope (top i)) (.ref T) kV doc pm an cdv ct) ⟨us, []⟩ = seqItems? (.ref T) >>= k ∧ k (some its.toArray) = pure (ps.zip (us ++ its.drop 1)))
    (ok : ∀ {f : Addr} {fd : FuncData}, FunV K x x (top i) f fd → FnOk P w K mg base CX0 k f fd ps sp) : Fn P w K mg base x k sp := by
  obtain ⟨f, oc, od, T, kV, dc, pm, an, cd, ct, sl, o, tk, n, a, l, c, kp, lT, oT⟩ := D.ex
  have F : FunV K x x (top i) f _ := ⟨oc, od, .ref T, kV, dc, pm, an, cd, ct, sl, rfl, l, c⟩
  have FD : FunD K x x (defArgs (top i)) (defBody (top i)) (defScope (top i)) [.int 1] [] f (PySem.W.fnOf x x (defArgs (top i)) (defBody (top i)) (defScope (top i)) (.ref T) kV dc pm an cd ct) :=
    ⟨⟨oc, od, .ref T, kV, dc, pm, an, cd, ct, sl, rfl, l, c, .inr ⟨by simp, T, o, [.int 1 tk], n, rfl, lT, oT, .cons ⟨tk, rfl⟩ .nil⟩, .inl rfl⟩, kp⟩
  obtain ⟨ds, e, b⟩ := FD.binds1 (ps := ps) 2 1 (by simp) (by rw [h2]; rfl) hb
  cases e
  exact ⟨f, _, ps, [], rfl, PySem.W.mg_of X G a, kp, ok F, b⟩
structure Facts (K : PySem.W.Frag) : Prop where
  Dis_whole : DefAt K "is_whole" 8
  Dis_tuple_of : DefAt K "is_tuple_of" 9
  Dis_fraction : DefAt K "is_fraction" 10
  Dneed_fraction : DefAt K "need_fraction" 11
  Dlowest : DefAt K "lowest" 12
  Dfraction : DefAtV K "fraction" 13
  Dplus : DefAt K "plus" 14
  Dless : DefAt K "less" 15
  Dtimes : DefAt K "times" 16
  Dhalf : DefAt K "half" 17
  Dtotal : DefAt K "total" 18
  Dare_counts : DefAt K "are_counts" 23
  Dis_spot_of : DefAt K "is_spot_of" 24
  Dis_pair_of : DefAt K "is_pair_of" 25
  Dneed_touches : DefAt K "need_touches" 26
  Dneed_machine : DefAt K "need_machine" 27
  Dspots : DefAt K "spots" 28
  Dneed_spot : DefAt K "need_spot" 29
  Dneed_load : DefAt K "need_load" 32
  Dis_load : DefAt K "is_load" 33
  Dneed_beats : DefAt K "need_beats" 34
  Dempty : DefAt K "empty" 35
  D_load_of : DefAt K "_load_of" 45
  Done_at : DefAt K "one_at" 36
  Dadded : DefAt K "added" 37
  Dscaled : DefAt K "scaled" 38
  Dheld : DefAt K "held" 39
  Dsquares : DefAt K "squares" 40
  D_read : DefAt K "_read" 46
  D_beat : DefAt K "_beat" 47
  Dread : DefAt K "read" 41
  Dbeat : DefAt K "beat" 42
  Dbehind : DefAt K "behind" 43
  Dreadings : DefAt K "readings" 44
  D_law_mixed : DefAt K "_law_mixed" 49
  D_law_draw : DefAt K "_law_draw" 50
  D_law_digit : DefAt K "_law_digit" 51
  D_law_counts : DefAt K "_law_counts" 52
  D_law_touches : DefAt K "_law_touches" 53
  D_law_machine : DefAt K "_law_machine" 54
  D_law_lowest : DefAt K "_law_lowest" 55
  D_law_plus : DefAt K "_law_plus" 56
  D_law_load : DefAt K "_law_load" 57
  D_law_read : DefAt K "_law_read" 58
  D_law_beat : DefAt K "_law_beat" 59
  D_law_squares : DefAt K "_law_squares" 60
  D_law_met : DefAt K "_law_met" 61
  D_law_goes_right : DefAt K "_law_goes_right" 62
  D_law_adds_right : DefAt K "_law_adds_right" 63
  Dlaw : DefAt K "law" 64
  Nty : PySem.W.nsIn K mainGlobals "type" = some none
  Nint : PySem.W.nsIn K mainGlobals "int" = some none
  Ntuple : PySem.W.nsIn K mainGlobals "tuple" = some none
  Nlen : PySem.W.nsIn K mainGlobals "len" = some none
  Nsum : PySem.W.nsIn K mainGlobals "sum" = some none
  Nrange : PySem.W.nsIn K mainGlobals "range" = some none
  Nenum : PySem.W.nsIn K mainGlobals "enumerate" = some none
  Nzip : PySem.W.nsIn K mainGlobals "zip" = some none
  Nlist : PySem.W.nsIn K mainGlobals "list" = some none
  Nsorted : PySem.W.nsIn K mainGlobals "sorted" = some none
  Nmin : PySem.W.nsIn K mainGlobals "min" = some none
  Nmax : PySem.W.nsIn K mainGlobals "max" = some none
  Nabs : PySem.W.nsIn K mainGlobals "abs" = some none
  Ngcd : PySem.W.nsIn K mainGlobals "gcd" = some (some (.builtin "math.gcd"))
  Imw : IntAt K "MOST_WHEELS" 16
  Imc : IntAt K "MOST_CELLS" 30
  Imt : IntAt K "MOST_TOUCHES" 8
  Imb : IntAt K "MOST_BEATS" 300
theorem Facts.tx (D : Facts K) (X : K.In h) (G : h.Ns mainGlobals mg) : Tx mg := by
  obtain ⟨t1, i1⟩ := D.Imw.ex
  obtain ⟨t2, i2⟩ := D.Imc.ex
  obtain ⟨t3, i3⟩ := D.Imt.ex
  obtain ⟨t4, i4⟩ := D.Imb.ex
  exact {
    ty := PySem.W.mg_none_of X G D.Nty
    int := PySem.W.mg_none_of X G D.Nint
    tuple := PySem.W.mg_none_of X G D.Ntuple
    len := PySem.W.mg_none_of X G D.Nlen
    sum := PySem.W.mg_none_of X G D.Nsum
    range := PySem.W.mg_none_of X G D.Nrange
    enum := PySem.W.mg_none_of X G D.Nenum
    zip := PySem.W.mg_none_of X G D.Nzip
    list := PySem.W.mg_none_of X G D.Nlist
    sorted := PySem.W.mg_none_of X G D.Nsorted
    min := PySem.W.mg_none_of X G D.Nmin
    max := PySem.W.mg_none_of X G D.Nmax
    abs := PySem.W.mg_none_of X G D.Nabs
    gcd := PySem.W.mg_of X G D.Ngcd
    mw := ⟨t1, PySem.W.mg_of X G i1⟩
    mc := ⟨t2, PySem.W.mg_of X G i2⟩
    mt := ⟨t3, PySem.W.mg_of X G i3⟩
    mb := ⟨t4, PySem.W.mg_of X G i4⟩ }
/-- all defs keep their promises -/
theorem Facts.law {l : PySem.W.OpenLaw} (D : Facts K) (X : K.In h) (G : h.Ns mainGlobals mg) : FL P w K mg base ∧ FW P w K mg base ∧ Fn P w K mg base "_law_goes_right" 8 (spD K gGoes) ∧ Fn P w K mg base "_law_adds_right" 8 (spD K gAdds) := by
  have T := D.tx X G
  have His_whole : Fn P w K mg base "is_whole" 1 (spD K gIsWhole) := Fn_of (ps := ["thing"]) X G D.Dis_whole (fun _ _ _ _ _ _ us hl => match us, hl with | [_], _ => rfl) fun F => ok_isWhole F T
  have His_tuple_of : Fn P w K mg base "is_tuple_of" 1 (spD K gTupleOf) := Fn_of (ps := ["thing", "many"]) X G D.Dis_tuple_of (fun _ _ _ _ _ _ us hl => match us, hl with | [_, _], _ => rfl) fun F => ok_tupleOf F T
  have His_fraction : Fn P w K mg base "is_fraction" 2 (spD K gFrac) := Fn_of (ps := ["thing"]) X G D.Dis_fraction (fun _ _ _ _ _ _ us hl => match us, hl with | [_], _ => rfl) fun F => ok_frac F T His_whole His_tuple_of
  have Hneed_fraction : Fn P w K mg base "need_fraction" 3 (spD K gNeedFrac) := Fn_of (ps := ["thing"]) X G D.Dneed_fraction (fun _ _ _ _ _ _ us hl => match us, hl with | [_], _ => rfl) fun F => ok_needFrac F T His_fraction
  have Hlowest : Fn P w K mg base "lowest" 1 (spD K gLow) := Fn_of (ps := ["top", "bottom"]) X G D.Dlowest (fun _ _ _ _ _ _ us hl => match us, hl with | [_, _], _ => rfl) fun F => ok_low F T
  have Hfraction : Fn P w K mg base "fraction" 2 (spD K gFraction) := Fn_ofV (ps := ["top", "bottom"]) X G D.Dfraction rfl (fun _ _ _ _ _ _ _ us its h1 h2 => match us, its, h1, h2 with | [_, _], [_], _, _ => ⟨_, rfl, rfl⟩) fun F => ok_fraction F T His_whole Hlowest
  have Hplus : Fn P w K mg base "plus" 2 (spD K gPlus) := Fn_of (ps := ["one", "other"]) X G D.Dplus (fun _ _ _ _ _ _ us hl => match us, hl with | [_, _], _ => rfl) fun F => ok_plus F T Hlowest
  have Hless : Fn P w K mg base "less" 2 (spD K gLess) := Fn_of (ps := ["one", "other"]) X G D.Dless (fun _ _ _ _ _ _ us hl => match us, hl with | [_, _], _ => rfl) fun F => ok_less F T Hlowest
  have Htimes : Fn P w K mg base "times" 2 (spD K gTimes) := Fn_of (ps := ["one", "other"]) X G D.Dtimes (fun _ _ _ _ _ _ us hl => match us, hl with | [_, _], _ => rfl) fun F => ok_times F T Hlowest
  have Hhalf : Fn P w K mg base "half" 2 (spD K gHalf) := Fn_of (ps := ["one"]) X G D.Dhalf (fun _ _ _ _ _ _ us hl => match us, hl with | [_], _ => rfl) fun F => ok_half F T Hlowest
  have Htotal : Fn P w K mg base "total" 3 (spD K gTotal) := Fn_of (ps := ["things"]) X G D.Dtotal (fun _ _ _ _ _ _ us hl => match us, hl with | [_], _ => rfl) fun F => ok_total F T Hplus
  have Hare_counts : Fn P w K mg base "are_counts" 2 (spD K gCounts) := Fn_of (ps := ["thing"]) X G D.Dare_counts (fun _ _ _ _ _ _ us hl => match us, hl with | [_], _ => rfl) fun F => ok_counts F T His_whole
  have His_spot_of : Fn P w K mg base "is_spot_of" 2 (spD K gSpotOf) := Fn_of (ps := ["counts", "thing"]) X G D.Dis_spot_of (fun _ _ _ _ _ _ us hl => match us, hl with | [_, _], _ => rfl) fun F => ok_spotOf F T His_whole His_tuple_of
  have His_pair_of : Fn P w K mg base "is_pair_of" 3 (spD K gPairOf) := Fn_of (ps := ["counts", "thing"]) X G D.Dis_pair_of (fun _ _ _ _ _ _ us hl => match us, hl with | [_, _], _ => rfl) fun F => ok_pairOf F T His_spot_of His_tuple_of
  have Hneed_touches : Fn P w K mg base "need_touches" 4 (spD K gNeedTouches) := Fn_of (ps := ["counts", "touches"]) X G D.Dneed_touches (fun _ _ _ _ _ _ us hl => match us, hl with | [_, _], _ => rfl) fun F => ok_needTouches F T His_pair_of
  have Hneed_machine : Fn P w K mg base "need_machine" 5 (spD K gNeedMachine) := Fn_of (ps := ["thing"]) X G D.Dneed_machine (fun _ _ _ _ _ _ us hl => match us, hl with | [_], _ => rfl) fun F => ok_needMachine F T His_tuple_of Hare_counts Hneed_touches
  have Hspots : Fn P w K mg base "spots" 6 (spD K gSpots) := Fn_of (ps := ["machine"]) X G D.Dspots (fun _ _ _ _ _ _ us hl => match us, hl with | [_], _ => rfl) fun F => ok_spots F T Hneed_machine
  have Hneed_spot : Fn P w K mg base "need_spot" 6 (spD K gNeedSpot) := Fn_of (ps := ["machine", "thing"]) X G D.Dneed_spot (fun _ _ _ _ _ _ us hl => match us, hl with | [_, _], _ => rfl) fun F => ok_needSpot F T Hneed_machine His_spot_of
  have Hneed_load : Fn P w K mg base "need_load" 6 (spD K gNeedLoad) := Fn_of (ps := ["machine", "thing"]) X G D.Dneed_load (fun _ _ _ _ _ _ us hl => match us, hl with | [_, _], _ => rfl) fun F => ok_needLoad F T Hneed_machine His_tuple_of His_fraction
  have His_load : Fn P w K mg base "is_load" 7 (spD K gIsLoad) := Fn_of (ps := ["machine", "thing"]) X G D.Dis_load (fun _ _ _ _ _ _ us hl => match us, hl with | [_, _], _ => rfl) fun F => ok_isLoad F T Hneed_load
  have Hneed_beats : Fn P w K mg base "need_beats" 2 (spD K gNeedBeats) := Fn_of (ps := ["beats"]) X G D.Dneed_beats (fun _ _ _ _ _ _ us hl => match us, hl with | [_], _ => rfl) fun F => ok_needBeats F T His_whole
  have Hempty : Fn P w K mg base "empty" 6 (spD K gEmpty) := Fn_of (ps := ["machine"]) X G D.Dempty (fun _ _ _ _ _ _ us hl => match us, hl with | [_], _ => rfl) fun F => ok_empty F T Hneed_machine
  have H_load_of : Fn P w K mg base "_load_of" 1 (spD K gLoadOf) := Fn_of (ps := ["rows"]) X G D.D_load_of (fun _ _ _ _ _ _ us hl => match us, hl with | [_], _ => rfl) fun F => ok_loadOf F T
  have Hone_at : Fn P w K mg base "one_at" 7 (spD K gOneAt) := Fn_of (ps := ["machine", "spot"]) X G D.Done_at (fun _ _ _ _ _ _ us hl => match us, hl with | [_, _], _ => rfl) fun F => ok_oneAt F T Hneed_spot H_load_of
  have Hadded : Fn P w K mg base "added" 7 (spD K gAdded) := Fn_of (ps := ["machine", "load", "other"]) X G D.Dadded (fun _ _ _ _ _ _ us hl => match us, hl with | [_, _, _], _ => rfl) fun F => ok_added F T Hneed_load Hplus
  have Hscaled : Fn P w K mg base "scaled" 7 (spD K gScaled) := Fn_of (ps := ["machine", "load", "by"]) X G D.Dscaled (fun _ _ _ _ _ _ us hl => match us, hl with | [_, _, _], _ => rfl) fun F => ok_scaled F T Hneed_load Hneed_fraction Htimes
  have Hheld : Fn P w K mg base "held" 7 (spD K gHeld) := Fn_of (ps := ["machine", "load"]) X G D.Dheld (fun _ _ _ _ _ _ us hl => match us, hl with | [_, _], _ => rfl) fun F => ok_held F T Hneed_load Htotal
  have Hsquares : Fn P w K mg base "squares" 7 (spD K gSquares) := Fn_of (ps := ["machine", "load"]) X G D.Dsquares (fun _ _ _ _ _ _ us hl => match us, hl with | [_, _], _ => rfl) fun F => ok_squares F T Hneed_load Htotal Htimes
  have H_read : Fn P w K mg base "_read" 3 (spD K gRead_) := Fn_of (ps := ["machine", "load"]) X G D.D_read (fun _ _ _ _ _ _ us hl => match us, hl with | [_, _], _ => rfl) fun F => ok_read_ F T Hplus Hhalf
  have H_beat : Fn P w K mg base "_beat" 4 (spD K gBeat_) := Fn_of (ps := ["machine", "load"]) X G D.D_beat (fun _ _ _ _ _ _ us hl => match us, hl with | [_, _], _ => rfl) fun F => ok_beat_ F T H_read H_load_of
  have Hread : Fn P w K mg base "read" 7 (spD K gRead_) := Fn_of (ps := ["machine", "load"]) X G D.Dread (fun _ _ _ _ _ _ us hl => match us, hl with | [_, _], _ => rfl) fun F => ok_read F T Hneed_load H_read
  have Hbeat : Fn P w K mg base "beat" 7 (spD K gBeat_) := Fn_of (ps := ["machine", "load"]) X G D.Dbeat (fun _ _ _ _ _ _ us hl => match us, hl with | [_, _], _ => rfl) fun F => ok_beat F T Hneed_load H_beat
  have Hbehind : Fn P w K mg base "behind" 7 (spD K gBehind) := Fn_of (ps := ["machine", "load", "beats"]) X G D.Dbehind (fun _ _ _ _ _ _ us hl => match us, hl with | [_, _, _], _ => rfl) fun F => ok_behind F T Hneed_load Hneed_beats H_beat
  have Hreadings : Fn P w K mg base "readings" 7 (spD K gReadings) := Fn_of (ps := ["machine", "load", "beats"]) X G D.Dreadings (fun _ _ _ _ _ _ us hl => match us, hl with | [_, _, _], _ => rfl) fun F => ok_readings F T Hneed_load Hneed_beats H_beat H_read
  have H_law_mixed : Fn P w K mg base "_law_mixed" 1 (spD K gMixed) := Fn_of (ps := ["cell", "k"]) X G D.D_law_mixed (fun _ _ _ _ _ _ us hl => match us, hl with | [_, _], _ => rfl) fun F => ok_mixed F T
  have H_law_draw : Fn P w K mg base "_law_draw" 1 (spK K gDraw) := Fn_of (ps := ["cell", "k"]) X G D.D_law_draw (fun _ _ _ _ _ _ us hl => match us, hl with | [_, _], _ => rfl) fun F => ok_draw F T
  have H_law_digit : Fn P w K mg base "_law_digit" 2 (spS K gDigit) := Fn_of (ps := ["state", "size"]) X G D.D_law_digit (fun _ _ _ _ _ _ us hl => match us, hl with | [_, _], _ => rfl) fun F => ok_digit F T H_law_mixed
  have H_law_counts : Fn P w K mg base "_law_counts" 3 (spS K gLCounts) := Fn_of (ps := ["state", "most"]) X G D.D_law_counts (fun _ _ _ _ _ _ us hl => match us, hl with | [_, _], _ => rfl) fun F => ok_lcounts F T H_law_digit
  have H_law_touches : Fn P w K mg base "_law_touches" 3 (spS K gLTouches) := Fn_of (ps := ["state", "wheels", "most"]) X G D.D_law_touches (fun _ _ _ _ _ _ us hl => match us, hl with | [_, _, _], _ => rfl) fun F => ok_ltouches F T H_law_digit
  have H_law_machine : Fn P w K mg base "_law_machine" 4 (spS K gLMachine) := Fn_of (ps := ["state", "most"]) X G D.D_law_machine (fun _ _ _ _ _ _ us hl => match us, hl with | [_, _], _ => rfl) fun F => ok_lmachine F T H_law_counts H_law_touches
  have H_law_lowest : Fn P w K mg base "_law_lowest" 1 (spD K gLow) := Fn_of (ps := ["top", "bottom"]) X G D.D_law_lowest (fun _ _ _ _ _ _ us hl => match us, hl with | [_, _], _ => rfl) fun F => ok_llow F T
  have H_law_plus : Fn P w K mg base "_law_plus" 2 (spD K gPlus) := Fn_of (ps := ["one", "other"]) X G D.D_law_plus (fun _ _ _ _ _ _ us hl => match us, hl with | [_, _], _ => rfl) fun F => ok_lplus F T H_law_lowest
  have H_law_load : Fn P w K mg base "_law_load" 3 (spS K gLLoad) := Fn_of (ps := ["state", "wheels", "span"]) X G D.D_law_load (fun _ _ _ _ _ _ us hl => match us, hl with | [_, _, _], _ => rfl) fun F => ok_lload F T H_law_digit H_law_lowest
  have H_law_read : Fn P w K mg base "_law_read" 3 (spD K gRead_) := Fn_of (ps := ["machine", "load"]) X G D.D_law_read (fun _ _ _ _ _ _ us hl => match us, hl with | [_, _], _ => rfl) fun F => ok_lread F T H_law_plus H_law_lowest
  have H_law_beat : Fn P w K mg base "_law_beat" 4 (spD K gBeat_) := Fn_of (ps := ["machine", "load"]) X G D.D_law_beat (fun _ _ _ _ _ _ us hl => match us, hl with | [_, _], _ => rfl) fun F => ok_lbeat F T H_law_read
  have H_law_squares : Fn P w K mg base "_law_squares" 3 (spD K gLSquares) := Fn_of (ps := ["load"]) X G D.D_law_squares (fun _ _ _ _ _ _ us hl => match us, hl with | [_], _ => rfl) fun F => ok_lsquares F T H_law_plus H_law_lowest
  have H_law_met : Fn P w K mg base "_law_met" 3 (spD K gLMet) := Fn_of (ps := ["machine", "load"]) X G D.D_law_met (fun _ _ _ _ _ _ us hl => match us, hl with | [_, _], _ => rfl) fun F => ok_lmet F T H_law_plus H_law_lowest
  have A1 : FL P w K mg base := ⟨Hneed_load, His_load, Hempty, Hone_at, Hadded, Hscaled, Hheld, Hsquares, Hread, Hbeat, Hbehind, Hreadings, Hspots, Hplus, Hless, Htimes, Hhalf, Hfraction⟩
  have B1 : FW P w K mg base := ⟨H_law_read, H_law_beat, H_law_squares, H_law_met, H_law_draw, H_law_digit, H_law_machine, H_law_load⟩
  have H_law_goes_right : Fn P w K mg base "_law_goes_right" 8 (spD K gGoes) := Fn_of (ps := ["machine", "load", "beats"]) X G D.D_law_goes_right (fun _ _ _ _ _ _ us hl => match us, hl with | [_, _, _], _ => rfl) fun F => ok_goes F T A1 B1
  have H_law_adds_right : Fn P w K mg base "_law_adds_right" 8 (spD K gAdds) := Fn_of (ps := ["machine", "load", "other", "by", "beats"]) X G D.D_law_adds_right (fun _ _ _ _ _ _ us hl => match us, hl with | [_, _, _, _, _], _ => rfl) fun F => ok_adds F T A1
  exact ⟨A1, B1, H_law_goes_right, H_law_adds_right⟩
def spLaw (K : PySem.W.Frag) : Sp := fun vs H Q _ => ∃ (a : Addr) (ns : List Int), vs = [.ref a] ∧ SqL K H a (ns.map V.int) ∧ ns.length ≤ 63 ∧ ∀ H', Q (.bl true) H'
theorem law_imp {vs : List V} {H : Hp} {Q : VK} {E : XK} (q : spLaw K vs H Q E) : spD K gLaw vs H Q E := by
  obtain ⟨a, ns, rfl, hS, _, k⟩ := q
  refine ⟨H, [.list (ns.map .int)], .bool true, Ex.refl H, .cons (.lst hS (dpAll_ints ns)) .nil, ⟨ns, rfl, rfl⟩, fun v G' H' _ r => ?_⟩
  cases r
  exact k H'
theorem all_mk {l : PySem.W.OpenLaw} {fa : Addr} (D : Facts K) (X : K.In h) (G : h.Ns mainGlobals mg) (hfa : mg "law" = some (.ref fa)) :
    ∃ fd : FuncData, (∀ (s : Shared) (v : Value), BindsTo s fd ⟨[v], []⟩ [("script", v)]) ∧ ∀ base : Heap, K.In base → base.Ns mainGlobals mg → FnOk l.prog w K mg base CX0 9 fa fd ["script"] (spLaw K) := by
  obtain ⟨f, oc, od, kV, dc, pm, an, cd, ct, sl, a, lk, c, kp⟩ := D.Dlaw.ex
  have e := hfa.symm.trans (PySem.W.mg_of X G a)
  cases e
  refine ⟨PySem.W.fnOf "law" "law" (defArgs (top 64)) (defBody (top 64)) (defScope (top 64)) .none kV dc pm an cd ct, fun s v => .of_eq rfl, fun base _ _ => ?_⟩
  obtain ⟨A1, B1, g1, g2⟩ := D.law (P := l.prog) (w := w) (base := base) (l := l) X G
  exact (ok_law (fun_mk (st := top 64) lk c kp) (D.tx X G) A1 B1 g1 g2).imp fun vs H Q E q => law_imp q
end
theorem walk {l : PySem.W.OpenLaw} {q : Program} {loose : List Str} {XP : (Str → Option Value) → Heap → Prop} {YP : World → Heap → Prop} {d : DefRec} {K : Params → PySem.W.Frag} (hn : l.most = some 63) (hdf : d.params.defaults = [])
    (hY : ∀ (w : World) (h : Heap), YP w h → (K w.params).In h)
    (F : ∀ (w : World) (mg : Str → Option Value) (fa : Addr) (h : Heap), (K w.params).In h → h.Ns mainGlobals mg → mg d.name = some (.ref fa) →
      ∃ fd : FuncData, (∀ (s : Shared) (u : Value), BindsTo s fd ⟨[u], []⟩ [("script", u)]) ∧ ∀ base : Heap, (K w.params).In base → base.Ns mainGlobals mg → FnOk l.prog w (K w.params) mg base CX0 9 fa fd ["script"] (spLaw (K w.params))) :
    PySem.W.WalkO q loose XP YP l.row.toRowW d [] (fun f vs => PySem.call f vs) :=
  L2.walk_of (n := 63) (k := 9) (x := "script") (CX := fun _ => CX0) (sp := fun w => spLaw (K w.params)) hn (by decide) hdf ⟨rfl, by decide, by decide⟩ hY F (fun _ _ a ns hl _ hS => ⟨a, ns, rfl, hS, hl, fun _ => rfl⟩) fun _ _ _ _ _ z => z
end Ewl

open PySem PySem.W PyProof.Rows in
set_option maxRecDepth 100000 in
set_option maxHeartbeats 0 in
theorem PySem.Challenge.cw_evenwheels_k02_whole_beats_of_loads_holds : PySem.Challenge.rw_evenwheels_k02_whole_beats_of_loads.Holds := by
  w_on; o_law; k_head; (case hw => w_witness2)
  k_fill
  refine Ewl.walk (l := PySem.Challenge.rw_evenwheels_k02_whole_beats_of_loads) rfl rfl (fun w h Y => PySem.W.kIn_of Y) ?F
  case F =>
    intro w mg fa h KX G hmg
    refine Ewl.all_mk ?D KX G hmg
    case D =>
      constructor
      case Dis_whole =>
        refine' Ewl.DefAt.mk' ?a ?l ?c ?k
        (case a => k_is)
        (case l => k_is)
        (case c => k_is)
        (case k => k_is)
      case Dis_tuple_of =>
        refine' Ewl.DefAt.mk' ?a ?l ?c ?k
        (case a => k_is)
        (case l => k_is)
        (case c => k_is)
        (case k => k_is)
      case Dis_fraction =>
        refine' Ewl.DefAt.mk' ?a ?l ?c ?k
        (case a => k_is)
        (case l => k_is)
        (case c => k_is)
        (case k => k_is)
      case Dneed_fraction =>
        refine' Ewl.DefAt.mk' ?a ?l ?c ?k
        (case a => k_is)
        (case l => k_is)
        (case c => k_is)
        (case k => k_is)
      case Dlowest =>
        refine' Ewl.DefAt.mk' ?a ?l ?c ?k
        (case a => k_is)
        (case l => k_is)
        (case c => k_is)
        (case k => k_is)
      case Dfraction =>
        refine' Ewl.DefAtV.mk' ?a ?l ?c ?k ?lT
        (case a => k_is)
        (case l => k_is)
        (case c => k_is)
        (case k => k_is)
        (case lT => k_is)
      case Dplus =>
        refine' Ewl.DefAt.mk' ?a ?l ?c ?k
        (case a => k_is)
        (case l => k_is)
        (case c => k_is)
        (case k => k_is)
      case Dless =>
        refine' Ewl.DefAt.mk' ?a ?l ?c ?k
        (case a => k_is)
        (case l => k_is)
        (case c => k_is)
        (case k => k_is)
      case Dtimes =>
        refine' Ewl.DefAt.mk' ?a ?l ?c ?k
        (case a => k_is)
        (case l => k_is)
        (case c => k_is)
        (case k => k_is)
      case Dhalf =>
        refine' Ewl.DefAt.mk' ?a ?l ?c ?k
        (case a => k_is)
        (case l => k_is)
        (case c => k_is)
        (case k => k_is)
      case Dtotal =>
        refine' Ewl.DefAt.mk' ?a ?l ?c ?k
        (case a => k_is)
        (case l => k_is)
        (case c => k_is)
        (case k => k_is)
      case Dare_counts =>
        refine' Ewl.DefAt.mk' ?a ?l ?c ?k
        (case a => k_is)
        (case l => k_is)
        (case c => k_is)
        (case k => k_is)
      case Dis_spot_of =>
        refine' Ewl.DefAt.mk' ?a ?l ?c ?k
        (case a => k_is)
        (case l => k_is)
        (case c => k_is)
        (case k => k_is)
      case Dis_pair_of =>
        refine' Ewl.DefAt.mk' ?a ?l ?c ?k
        (case a => k_is)
        (case l => k_is)
        (case c => k_is)
        (case k => k_is)
      case Dneed_touches =>
        refine' Ewl.DefAt.mk' ?a ?l ?c ?k
        (case a => k_is)
        (case l => k_is)
        (case c => k_is)
        (case k => k_is)
      case Dneed_machine =>
        refine' Ewl.DefAt.mk' ?a ?l ?c ?k
        (case a => k_is)
        (case l => k_is)
        (case c => k_is)
        (case k => k_is)
      case Dspots =>
        refine' Ewl.DefAt.mk' ?a ?l ?c ?k
        (case a => k_is)
        (case l => k_is)
        (case c => k_is)
        (case k => k_is)
      case Dneed_spot =>
        refine' Ewl.DefAt.mk' ?a ?l ?c ?k
        (case a => k_is)
        (case l => k_is)
        (case c => k_is)
        (case k => k_is)
      case Dneed_load =>
        refine' Ewl.DefAt.mk' ?a ?l ?c ?k
        (case a => k_is)
        (case l => k_is)
        (case c => k_is)
        (case k => k_is)
      case Dis_load =>
        refine' Ewl.DefAt.mk' ?a ?l ?c ?k
        (case a => k_is)
        (case l => k_is)
        (case c => k_is)
        (case k => k_is)
      case Dneed_beats =>
        refine' Ewl.DefAt.mk' ?a ?l ?c ?k
        (case a => k_is)
        (case l => k_is)
        (case c => k_is)
        (case k => k_is)
      case Dempty =>
        refine' Ewl.DefAt.mk' ?a ?l ?c ?k
        (case a => k_is)
        (case l => k_is)
        (case c => k_is)
        (case k => k_is)
      case D_load_of =>
        refine' Ewl.DefAt.mk' ?a ?l ?c ?k
        (case a => k_is)
        (case l => k_is)
        (case c => k_is)
        (case k => k_is)
      case Done_at =>
        refine' Ewl.DefAt.mk' ?a ?l ?c ?k
        (case a => k_is)
        (case l => k_is)
        (case c => k_is)
        (case k => k_is)
      case Dadded =>
        refine' Ewl.DefAt.mk' ?a ?l ?c ?k
        (case a => k_is)
        (case l => k_is)
        (case c => k_is)
        (case k => k_is)
      case Dscaled =>
        refine' Ewl.DefAt.mk' ?a ?l ?c ?k
        (case a => k_is)
        (case l => k_is)
        (case c => k_is)
        (case k => k_is)
      case Dheld =>
        refine' Ewl.DefAt.mk' ?a ?l ?c ?k
        (case a => k_is)
        (case l => k_is)
        (case c => k_is)
        (case k => k_is)
      case Dsquares =>
        refine' Ewl.DefAt.mk' ?a ?l ?c ?k
        (case a => k_is)
        (case l => k_is)
        (case c => k_is)
        (case k => k_is)
      case D_read =>
        refine' Ewl.DefAt.mk' ?a ?l ?c ?k
        (case a => k_is)
        (case l => k_is)
        (case c => k_is)
        (case k => k_is)
      case D_beat =>
        refine' Ewl.DefAt.mk' ?a ?l ?c ?k
        (case a => k_is)
        (case l => k_is)
        (case c => k_is)
        (case k => k_is)
      case Dread =>
        refine' Ewl.DefAt.mk' ?a ?l ?c ?k
        (case a => k_is)
        (case l => k_is)
        (case c => k_is)
        (case k => k_is)
      case Dbeat =>
        refine' Ewl.DefAt.mk' ?a ?l ?c ?k
        (case a => k_is)
        (case l => k_is)
        (case c => k_is)
        (case k => k_is)
      case Dbehind =>
        refine' Ewl.DefAt.mk' ?a ?l ?c ?k
        (case a => k_is)
        (case l => k_is)
        (case c => k_is)
        (case k => k_is)
      case Dreadings =>
        refine' Ewl.DefAt.mk' ?a ?l ?c ?k
        (case a => k_is)
        (case l => k_is)
        (case c => k_is)
        (case k => k_is)
      case D_law_mixed =>
        refine' Ewl.DefAt.mk' ?a ?l ?c ?k
        (case a => k_is)
        (case l => k_is)
        (case c => k_is)
        (case k => k_is)
      case D_law_draw =>
        refine' Ewl.DefAt.mk' ?a ?l ?c ?k
        (case a => k_is)
        (case l => k_is)
        (case c => k_is)
        (case k => k_is)
      case D_law_digit =>
        refine' Ewl.DefAt.mk' ?a ?l ?c ?k
        (case a => k_is)
        (case l => k_is)
        (case c => k_is)
        (case k => k_is)
      case D_law_counts =>
        refine' Ewl.DefAt.mk' ?a ?l ?c ?k
        (case a => k_is)
        (case l => k_is)
        (case c => k_is)
        (case k => k_is)
      case D_law_touches =>
        refine' Ewl.DefAt.mk' ?a ?l ?c ?k
        (case a => k_is)
        (case l => k_is)
        (case c => k_is)
        (case k => k_is)
      case D_law_machine =>
        refine' Ewl.DefAt.mk' ?a ?l ?c ?k
        (case a => k_is)
        (case l => k_is)
        (case c => k_is)
        (case k => k_is)
      case D_law_lowest =>
        refine' Ewl.DefAt.mk' ?a ?l ?c ?k
        (case a => k_is)
        (case l => k_is)
        (case c => k_is)
        (case k => k_is)
      case D_law_plus =>
        refine' Ewl.DefAt.mk' ?a ?l ?c ?k
        (case a => k_is)
        (case l => k_is)
        (case c => k_is)
        (case k => k_is)
      case D_law_load =>
        refine' Ewl.DefAt.mk' ?a ?l ?c ?k
        (case a => k_is)
        (case l => k_is)
        (case c => k_is)
        (case k => k_is)
      case D_law_read =>
        refine' Ewl.DefAt.mk' ?a ?l ?c ?k
        (case a => k_is)
        (case l => k_is)
        (case c => k_is)
        (case k => k_is)
      case D_law_beat =>
        refine' Ewl.DefAt.mk' ?a ?l ?c ?k
        (case a => k_is)
        (case l => k_is)
        (case c => k_is)
        (case k => k_is)
      case D_law_squares =>
        refine' Ewl.DefAt.mk' ?a ?l ?c ?k
        (case a => k_is)
        (case l => k_is)
        (case c => k_is)
        (case k => k_is)
      case D_law_met =>
        refine' Ewl.DefAt.mk' ?a ?l ?c ?k
        (case a => k_is)
        (case l => k_is)
        (case c => k_is)
        (case k => k_is)
      case D_law_goes_right =>
        refine' Ewl.DefAt.mk' ?a ?l ?c ?k
        (case a => k_is)
        (case l => k_is)
        (case c => k_is)
        (case k => k_is)
      case D_law_adds_right =>
        refine' Ewl.DefAt.mk' ?a ?l ?c ?k
        (case a => k_is)
        (case l => k_is)
        (case c => k_is)
        (case k => k_is)
      case Dlaw =>
        refine' Ewl.DefAt.mk' ?a ?l ?c ?k
        (case a => k_is)
        (case l => k_is)
        (case c => k_is)
        (case k => k_is)
      (case Nty => k_is)
      (case Nint => k_is)
      (case Ntuple => k_is)
      (case Nlen => k_is)
      (case Nsum => k_is)
      (case Nrange => k_is)
      (case Nenum => k_is)
      (case Nzip => k_is)
      (case Nlist => k_is)
      (case Nsorted => k_is)
      (case Nmin => k_is)
      (case Nmax => k_is)
      (case Nabs => k_is)
      (case Ngcd => k_is)
      case Imw =>
        refine' Ewl.IntAt.mk' ?a
        (case a => k_is)
      case Imc =>
        refine' Ewl.IntAt.mk' ?a
        (case a => k_is)
      case Imt =>
        refine' Ewl.IntAt.mk' ?a
        (case a => k_is)
      case Imb =>
        refine' Ewl.IntAt.mk' ?a
        (case a => k_is)
#print axioms PySem.Challenge.cw_evenwheels_k02_whole_beats_of_loads_holds
