import PyProof.Rows.All
import Wide.All
import OpenK.AllK
import Wide.FinOn
import HandS.ForMost
import HandS.Deep
import HandS.TupAny
import HandS.TupLe
import HandS.Conv
import HandS.Walk
import HandS.Zip
import HandS.SortInts
import KE.SortData
import HandS.IsInst
import HandS.Strs
import HandS.SetFor
import HandS.Style
import HandS.Star
import KE.GoesMore
import HandS.TupMul
import HandS.TupSets
import KE.KDictCopyH
import KE.KDictKeyed
import KE.KeyNested
import HandS.TryOnly
import HandS.SetBool
import HandS.DictComp
import KE.KDictPairs
import HandS.More
import PyProof.TupleOfSeq
import HandS.DictTup
import PySem.Challenge.RW_holdmodes_k17_whole_fewest_modes
set_option Elab.async false
set_option linter.all false
set_option maxRecDepth 100000
set_option maxHeartbeats 4000000
/-! The data layer: a def's meaning as a Lean function over plain data; every rule of it stands over the hand layer's. -/
namespace DL
open PySem PySem.Spec PyProof.Rows L2

def LIM : Nat := 1000000
theorem lim_le {n : Nat} (h : n ≤ LIM) : n ≤ sizeLine := Nat.le_trans h (by decide)
theorem lim_lt {n : Nat} (h : n < LIM) : n < sizeLine := Nat.lt_of_lt_of_le h (by decide)

/-! ### data in the abstract heap -/
def keyD : Key → PyData
  | .inl i => .int i
  | .inr x => .str x
inductive AtV : V → PyData → Prop
  | non : AtV .non .none
  | bl (b : Bool) : AtV (.bl b) (.bool b)
  | int (i : Int) : AtV (.int i) (.int i)
  | str (x : Str) : AtV (.str x) (.str x)
mutual
/-- at v stands the data d; no node of it lies in M -/
inductive Dv (M : Addr → Prop) (H : Hp) : V → PyData → Prop
  | atm {v : V} {d : PyData} : AtV v d → Dv M H v d
  | lst {a : Addr} {xs : List V} {ds : List PyData} : ¬ M a → Rd H a (.lst xs) → ds.length ≤ LIM → DvA M H xs ds → Dv M H (.ref a) (.list ds)
  | tup {a : Addr} {xs : List V} {ds : List PyData} : ¬ M a → H a = some (.tup xs) → ds.length ≤ LIM → DvA M H xs ds → Dv M H (.ref a) (.tuple ds)
  | dct {a : Addr} {kvs : List (Key × V)} {ps : List (PyData × PyData)} : ¬ M a → Rd H a (.dK kvs) → ps.length ≤ LIM → Paired (fun (q : Key × V) (p : PyData × PyData) => keyD q.1 = p.1 ∧ AtV q.2 p.2) kvs ps → Dv M H (.ref a) (.dict ps)
  | dcm {a : Addr} {kvs : List (Key × V)} {i : Int} {ps : List (PyData × PyData)} : ¬ M a → Rd H a (.dK kvs) → ps.length ≤ LIM → 1920 ≤ i.natAbs.log2 → DvK M H kvs ps → Dv M H (.ref a) (.dict ((.none, .int i) :: ps))
inductive DvK (M : Addr → Prop) (H : Hp) : List (Key × V) → List (PyData × PyData) → Prop
  | nil : DvK M H [] []
  | cons {k : Key} {v : V} {kvs : List (Key × V)} {x d : PyData} {ps : List (PyData × PyData)} : keyD k = x → Dv M H v d → DvK M H kvs ps → DvK M H ((k, v) :: kvs) ((x, d) :: ps)
inductive DvA (M : Addr → Prop) (H : Hp) : List V → List PyData → Prop
  | nil : DvA M H [] []
  | cons {v : V} {vs : List V} {d : PyData} {ds : List PyData} : Dv M H v d → DvA M H vs ds → DvA M H (v :: vs) (d :: ds)
end
theorem rd_mono {H H' : Hp} {a : Addr} {u : HO} (h : Rd H a u) (k : ∀ o, H a = some o → H' a = some o) : Rd H' a u := by
  rcases h with h | ⟨o, h⟩
  · exact .inl (k _ h)
  · exact .inr ⟨o, k _ h⟩
section
variable {M M' : Addr → Prop} {H H' : Hp}
mutual
theorem Dv.mono (hk : ∀ b o, H b = some o → ¬ M b → H' b = some o) (hm : ∀ b, M' b → M b ∨ H b = none) : ∀ (d : PyData) (v : V), Dv M H v d → Dv M' H' v d
  | .none, _, h => by cases h with | atm q => exact .atm q
  | .bool _, _, h => by cases h with | atm q => exact .atm q
  | .int _, _, h => by cases h with | atm q => exact .atm q
  | .str _, _, h => by cases h with | atm q => exact .atm q
  | .list ds, _, h => by
    cases h with
    | atm q => cases q
    | lst n r l q => exact .lst (fun m => (hm _ m).elim n fun z => by rcases r with r | ⟨_, r⟩ <;> (rw [z] at r; cases r)) (rd_mono r fun o e => hk _ o e n) l (DvA.mono hk hm ds _ q)
  | .tuple ds, _, h => by
    cases h with
    | atm q => cases q
    | tup n r l q => exact .tup (fun m => (hm _ m).elim n fun z => by rw [z] at r; cases r) (hk _ _ r n) l (DvA.mono hk hm ds _ q)
  | .dict [], _, h => by
    cases h with
    | atm q => cases q
    | dct n r l q => exact .dct (fun m => (hm _ m).elim n fun z => by rcases r with r | ⟨_, r⟩ <;> (rw [z] at r; cases r)) (rd_mono r fun o e => hk _ o e n) l q
  | .dict ((x, y) :: ps), _, h => by
    cases h with
    | atm q => cases q
    | dct n r l q => exact .dct (fun m => (hm _ m).elim n fun z => by rcases r with r | ⟨_, r⟩ <;> (rw [z] at r; cases r)) (rd_mono r fun o e => hk _ o e n) l q
    | dcm n r l b q => exact .dcm (fun m => (hm _ m).elim n fun z => by rcases r with r | ⟨_, r⟩ <;> (rw [z] at r; cases r)) (rd_mono r fun o e => hk _ o e n) l b (DvK.mono hk hm ps _ q)
theorem DvK.mono (hk : ∀ b o, H b = some o → ¬ M b → H' b = some o) (hm : ∀ b, M' b → M b ∨ H b = none) : ∀ (ps : List (PyData × PyData)) (kvs : List (Key × V)), DvK M H kvs ps → DvK M' H' kvs ps
  | [], _, h => by cases h with | nil => exact .nil
  | (x, d) :: ps, _, h => by cases h with | cons e a b => exact .cons e (Dv.mono hk hm d _ a) (DvK.mono hk hm ps _ b)
theorem DvA.mono (hk : ∀ b o, H b = some o → ¬ M b → H' b = some o) (hm : ∀ b, M' b → M b ∨ H b = none) : ∀ (ds : List PyData) (vs : List V), DvA M H vs ds → DvA M' H' vs ds
  | [], _, h => by cases h with | nil => exact .nil
  | d :: ds, _, h => by cases h with | cons a b => exact .cons (Dv.mono hk hm d _ a) (DvA.mono hk hm ds _ b)
end
theorem Dv.up {v : V} {d : PyData} (h : Dv M H v d) (hk : ∀ b o, H b = some o → ¬ M b → H' b = some o) (hm : ∀ b, M' b → M b ∨ H b = none) : Dv M' H' v d := Dv.mono hk hm d v h
theorem DvA.up {vs : List V} {ds : List PyData} (h : DvA M H vs ds) (hk : ∀ b o, H b = some o → ¬ M b → H' b = some o) (hm : ∀ b, M' b → M b ∨ H b = none) : DvA M' H' vs ds := DvA.mono hk hm ds vs h
theorem Dv.same {v : V} {d : PyData} (h : Dv M H v d) (e : Same H H') : Dv M H' v d := h.up (fun b o q _ => e b o q) fun _ m => .inl m
theorem DvA.same {vs : List V} {ds : List PyData} (h : DvA M H vs ds) (e : Same H H') : DvA M H' vs ds := h.up (fun b o q _ => e b o q) fun _ m => .inl m
theorem Dv.less {v : V} {d : PyData} (h : Dv M H v d) (e : ∀ b, M' b → M b) : Dv M' H v d := h.up (fun _ _ q _ => q) fun b m => .inl (e b m)
theorem DvA.less {vs : List V} {ds : List PyData} (h : DvA M H vs ds) (e : ∀ b, M' b → M b) : DvA M' H vs ds := h.up (fun _ _ q _ => q) fun b m => .inl (e b m)
theorem DvA.length : ∀ {vs : List V} {ds : List PyData}, DvA M H vs ds → vs.length = ds.length
  | _, _, .nil => rfl
  | _, _, .cons _ b => congrArg (· + 1) (DvA.length b)
theorem DvA.append : ∀ {vs ws : List V} {ds es : List PyData}, DvA M H vs ds → DvA M H ws es → DvA M H (vs ++ ws) (ds ++ es)
  | _, _, _, _, .nil, b => b
  | _, _, _, _, .cons a r, b => .cons a (DvA.append r b)
theorem DvA.take : ∀ {vs : List V} {ds : List PyData} (n : Nat), DvA M H vs ds → DvA M H (vs.take n) (ds.take n)
  | _, _, 0, _ => by rw [List.take_zero, List.take_zero]; exact .nil
  | _, _, _ + 1, .nil => .nil
  | _, _, n + 1, .cons a r => .cons a (DvA.take n r)
theorem DvA.drop : ∀ {vs : List V} {ds : List PyData} (n : Nat), DvA M H vs ds → DvA M H (vs.drop n) (ds.drop n)
  | _, _, 0, h => h
  | _, _, _ + 1, .nil => .nil
  | _, _, n + 1, .cons _ r => DvA.drop n r
theorem DvA.get : ∀ {vs : List V} {ds : List PyData} {i : Nat} {d : PyData}, DvA M H vs ds → ds[i]? = some d → ∃ v, vs[i]? = some v ∧ Dv M H v d
  | _, _, _, _, .nil, e => by simp at e
  | _, _, 0, _, .cons a _, e => by simp at e; subst e; exact ⟨_, rfl, a⟩
  | _, _, i + 1, d, .cons _ r, e => by
    obtain ⟨v, h1, h2⟩ := DvA.get (i := i) (d := d) r (by simpa using e)
    exact ⟨v, by simpa using h1, h2⟩
theorem DvA.getV : ∀ {vs : List V} {ds : List PyData} {i : Nat} {v : V}, DvA M H vs ds → vs[i]? = some v → ∃ d, ds[i]? = some d ∧ Dv M H v d
  | _, _, _, _, .nil, e => by simp at e
  | _, _, 0, _, .cons a _, e => by simp at e; subst e; exact ⟨_, rfl, a⟩
  | _, _, i + 1, d, .cons _ r, e => by
    obtain ⟨v, h1, h2⟩ := DvA.getV (i := i) r (by simpa using e)
    exact ⟨v, by simpa using h1, h2⟩
theorem DvA.set {v : V} {d : PyData} (h : Dv M H v d) : ∀ {vs : List V} {ds : List PyData} (i : Nat), DvA M H vs ds → DvA M H (vs.set i v) (ds.set i d)
  | _, _, _, .nil => .nil
  | _, _, 0, .cons _ r => .cons h r
  | _, _, i + 1, .cons a r => .cons a (DvA.set h i r)
theorem DvA.reverse : ∀ {vs : List V} {ds : List PyData}, DvA M H vs ds → DvA M H vs.reverse ds.reverse
  | _, _, .nil => .nil
  | _, _, .cons a r => by rw [List.reverse_cons, List.reverse_cons]; exact (DvA.reverse r).append (.cons a .nil)
end

/-- no list and no dict in it -/
def flat : PyData → Bool
  | .none | .bool _ | .int _ | .str _ => true
  | .tuple ds => flatA ds
  | .list _ | .dict _ => false
where flatA : List PyData → Bool
  | [] => true
  | d :: ds => flat d && flatA ds
section
variable {M M' : Addr → Prop} {H : Hp}
theorem not_mut_tup {a : Addr} {xs : List V} (r : Rd H a (.tup xs)) (m : Mut (H a)) : False := by
  rcases r with r | ⟨o, r⟩ <;> (rw [r] at m; exact m)
mutual
theorem Dv.flat (hm : ∀ b, M' b → Mut (H b)) : ∀ (d : PyData) (v : V), flat d = true → Dv M H v d → Dv M' H v d
  | .none, _, _, h => by cases h with | atm q => exact .atm q
  | .bool _, _, _, h => by cases h with | atm q => exact .atm q
  | .int _, _, _, h => by cases h with | atm q => exact .atm q
  | .str _, _, _, h => by cases h with | atm q => exact .atm q
  | .list ds, _, f, h => by simp [DL.flat] at f
  | .tuple ds, _, f, h => by
    cases h with
    | atm q => cases q
    | tup n r l q => exact .tup (fun m => not_mut_tup (.inl r) (hm _ m)) r l (DvA.flat hm ds _ (by simpa [DL.flat] using f) q)
  | .dict ps, _, f, h => by simp [DL.flat] at f
theorem DvA.flat (hm : ∀ b, M' b → Mut (H b)) : ∀ (ds : List PyData) (vs : List V), DL.flat.flatA ds = true → DvA M H vs ds → DvA M' H vs ds
  | [], _, _, h => by cases h with | nil => exact .nil
  | d :: ds, _, f, h => by
    have f' : DL.flat d = true ∧ DL.flat.flatA ds = true := by simpa [DL.flat.flatA] using f
    cases h with | cons a b => exact .cons (Dv.flat hm d _ f'.1 a) (DvA.flat hm ds _ f'.2 b)
end
end

/-! ### from the abstract heap to what the machine reads -/
theorem at_reads {h : Heap} {v : V} {u : Value} {d : PyData} (q : AtV v d) (r : RelV v u) : Reads h u d [] := by
  cases q with
  | non => cases r; exact Reads.none
  | bl b => cases r; exact Reads.bool b
  | int i => obtain ⟨t, rfl⟩ := r; exact Reads.int i t
  | str x => obtain ⟨t, rfl⟩ := r; exact Reads.str x t
def noDict : PyData → Bool
  | .none | .bool _ | .int _ | .str _ => true
  | .tuple ds => noDictA ds
  | .list ds => noDictA ds
  | .dict _ => false
where noDictA : List PyData → Bool
  | [] => true
  | d :: ds => noDict d && noDictA ds
section
variable {X : Cx} {pins : List (Addr × Obj)} {σ : L2.St} {M : Addr → Prop} {H : Hp} {s : Shared}
mutual
theorem Dv.reads (I : Inv X pins σ H s) : ∀ (d : PyData) (v : V) (u : Value), noDict d = true → Dv M H v d → RelV v u → ∃ as, Reads s.heap u d as
  | .none, _, _, _, h, r => by cases h with | atm q => exact ⟨_, at_reads q r⟩
  | .bool _, _, _, _, h, r => by cases h with | atm q => exact ⟨_, at_reads q r⟩
  | .int _, _, _, _, h, r => by cases h with | atm q => exact ⟨_, at_reads q r⟩
  | .str _, _, _, _, h, r => by cases h with | atm q => exact ⟨_, at_reads q r⟩
  | .list ds, _, _, f, h, r => by
    cases h with
    | atm q => cases q
    | lst n hs l ha =>
      cases r
      obtain ⟨its, rv, ⟨o, n, ho, hc, _, hd⟩, _⟩ := I.list (.inl hs)
      obtain ⟨as, hr⟩ := DvA.reads I ds _ its (by simpa [noDict] using f) ha rv
      exact ⟨_, Reads.list ho hc hd hr⟩
  | .tuple ds, _, _, f, h, r => by
    cases h with
    | atm q => cases q
    | tup n hs l ha =>
      cases r
      obtain ⟨its, rv, ⟨o, ho, hc, n, hd⟩, _⟩ := I.tuple (.inl (.inl hs))
      obtain ⟨as, hr⟩ := DvA.reads I ds _ its (by simpa [noDict] using f) ha rv
      exact ⟨_, Reads.tuple ho hc hd hr⟩
  | .dict _, _, _, f, _, _ => by simp [noDict] at f
theorem DvA.reads (I : Inv X pins σ H s) : ∀ (ds : List PyData) (vs : List V) (us : List Value), noDict.noDictA ds = true → DvA M H vs ds → Vals vs us → ∃ as, ReadsAll s.heap us ds as
  | [], _, _, _, h, r => by
    cases h with | nil => cases r with | nil => exact ⟨_, ReadsAll.nil⟩
  | d :: ds, _, _, f, h, r => by
    have f' : noDict d = true ∧ noDict.noDictA ds = true := by simpa [noDict.noDictA] using f
    cases h with
    | cons h1 h2 =>
      cases r with
      | cons r1 r2 =>
        obtain ⟨as, q1⟩ := Dv.reads I d _ _ f'.1 h1 r1
        obtain ⟨bs, q2⟩ := DvA.reads I ds _ _ f'.2 h2 r2
        exact ⟨_, ReadsAll.cons q1 q2⟩
end
end
end DL
namespace DL
open PySem PySem.Spec PyProof.Rows L2

/-! ### a def's names, the shared things -/
/-- what a name holds: data that nobody changes, a list of the def's own, a shared thing by its number, the law's script -/
inductive SV where
  | v (d : PyData)
  | own (ds : List PyData)
  | obj (n : Nat)
  | scr (K : PySem.W.Frag) (ns : List Int)
/-- a shared thing's content -/
inductive WO where
  | lst (ds : List PyData)
  | dct (kvs : List (Key × PyData))
  | dtt (kvs : List (List Key × PyData))
/-- what an expression gives -/
inductive RS where
  | v (d : PyData)
  | own (i : Nat)
  | obj (n : Nat)
  | scr (K : PySem.W.Frag) (ns : List Int)
/-- what goes into a call and comes out -/
inductive FA where
  | val (d : PyData)
  | obj (n : Nat)
  | scr (K : PySem.W.Frag) (ns : List Int)
abbrev DE := List (Option SV)
abbrev Wd := List WO

def OwnAt (e : DE) (σ : L2.St) (b : Addr) : Prop := ∃ (i : Nat) (ds : List PyData), e[i]? = some (some (.own ds)) ∧ σ[i]? = some (some (.ref b))
/-- what may change while the def runs, and what its callers may change -/
def Msk (P : Addr → Prop) (α : List Addr) (e : DE) (σ : L2.St) (b : Addr) : Prop := P b ∨ b ∈ α ∨ OwnAt e σ b

/-- the script: it stands, or it is one of the module's own objects -/
def ScrIs (M : Addr → Prop) (H : Hp) (v : V) (K : PySem.W.Frag) (ns : List Int) : Prop := ns.length ≤ 63 ∧ ∃ a, v = .ref a ∧ ((¬ M a ∧ Rd H a (.lst (ns.map V.int))) ∨ SqL K (fun _ => none) a (ns.map V.int))
theorem ScrIs.up {M M' : Addr → Prop} {H H' : Hp} {v : V} {K : PySem.W.Frag} {ns : List Int} (h : ScrIs M H v K ns) (hk : ∀ b o, H b = some o → ¬ M b → H' b = some o) (hm : ∀ b, M' b → M b ∨ H b = none) : ScrIs M' H' v K ns := by
  obtain ⟨hl, a, rfl, h⟩ := h
  refine ⟨hl, a, rfl, ?_⟩
  rcases h with ⟨n, r⟩ | h
  · refine .inl ⟨fun m => (hm a m).elim n fun z => by rcases r with r | ⟨_, r⟩ <;> (rw [z] at r; cases r), rd_mono r fun o e => hk _ o e n⟩
  · exact .inr h
theorem ScrIs.seq {M : Addr → Prop} {H : Hp} {v : V} {K : PySem.W.Frag} {ns : List Int} (h : ScrIs M H v K ns) : ∃ a, v = .ref a ∧ SqL K H a (ns.map V.int) := by
  obtain ⟨hl, a, rfl, h⟩ := h
  refine ⟨a, rfl, ?_⟩
  rcases h with ⟨_, r⟩ | (r | ⟨_, r⟩) | h
  · exact .inl r
  · cases r
  · cases r
  · exact .inr h
def SvIs (M : Addr → Prop) (α : List Addr) (H : Hp) (v : V) : SV → Prop
  | .v d => Dv M H v d
  | .own ds => ∃ b xs, v = .ref b ∧ H b = some (.lst xs) ∧ DvA M H xs ds ∧ ds.length ≤ LIM
  | .obj n => ∃ a, α[n]? = some a ∧ v = .ref a
  | .scr K ns => ScrIs M H v K ns
def ObIs (M : Addr → Prop) (H : Hp) (a : Addr) : WO → Prop
  | .lst ds => ∃ xs, H a = some (.lst xs) ∧ DvA M H xs ds ∧ ds.length ≤ LIM
  | .dct kvs => ∃ vs : List (Key × V), H a = some (.dK vs) ∧ Paired (fun (q : Key × V) (p : Key × PyData) => q.1 = p.1 ∧ Dv M H q.2 p.2) vs kvs
  | .dtt kvs => ∃ vs : List (List Key × V), H a = some (.dT vs) ∧ Paired (fun (q : List Key × V) (p : List Key × PyData) => q.1 = p.1 ∧ Dv M H q.2 p.2) vs kvs

structure Rel (P : Addr → Prop) (α : List Addr) (e : DE) (w : Wd) (σ : L2.St) (H : Hp) : Prop where
  ln : e.length = σ.length
  nd : α.Nodup
  pa : ∀ b ∈ α, ¬ P b
  pt : ∀ b, P b → Mut (H b)
  al : α.length = w.length
  ob : ∀ (n : Nat) (o : WO) (a : Addr), w[n]? = some o → α[n]? = some a → ObIs (Msk P α e σ) H a o
  sl : ∀ (i : Nat) (x : SV), e[i]? = some (some x) → ∃ v, σ[i]? = some (some v) ∧ SvIs (Msk P α e σ) α H v x
  oa : ∀ (i : Nat) (ds : List PyData) (b : Addr), e[i]? = some (some (.own ds)) → σ[i]? = some (some (.ref b)) → b ∉ α ∧ ¬ P b
  od : ∀ (i j : Nat) (ds es : List PyData) (b : Addr), e[i]? = some (some (.own ds)) → e[j]? = some (some (.own es)) → σ[i]? = some (some (.ref b)) → σ[j]? = some (some (.ref b)) → i = j

structure UpE (α : List Addr) (H : Hp) (α' : List Addr) (H' : Hp) : Prop where
  pre : ∃ β, α' = α ++ β
  fre : ∀ b ∈ α', b ∉ α → H b = none
  kp : ∀ b o, H b = some o → b ∉ α → H' b = some o
  ex : ∀ b, H' b = none → H b = none
theorem UpE.refl (α : List Addr) (H : Hp) : UpE α H α H := ⟨⟨[], by simp⟩, fun b h n => absurd h n, fun _ _ h _ => h, fun _ h => h⟩
theorem UpE.of_same {α : List Addr} {H H' : Hp} (e : Same H H') : UpE α H α H' := ⟨⟨[], by simp⟩, fun b h n => absurd h n, fun b o h _ => e b o h, fun b h => e.free h⟩
theorem UpE.trans {α β γ : List Addr} {H H1 H2 : Hp} (a : UpE α H β H1) (b : UpE β H1 γ H2) : UpE α H γ H2 where
  pre := by
    obtain ⟨x, rfl⟩ := a.pre
    obtain ⟨y, rfl⟩ := b.pre
    exact ⟨x ++ y, by rw [List.append_assoc]⟩
  fre := fun c hc n => by
    by_cases hb : c ∈ β
    · exact a.fre c hb n
    · cases q : H c with
      | none => rfl
      | some o =>
        have := a.kp c o q n
        rw [b.fre c hc hb] at this
        cases this
  kp := fun c o h n => by
    have h1 := a.kp c o h n
    refine b.kp c o h1 fun hb => ?_
    rw [a.fre c hb n] at h
    cases h
  ex := fun c h => a.ex c (b.ex c h)
theorem UpE.get {α α' : List Addr} {H H' : Hp} {n : Nat} {a : Addr} (u : UpE α H α' H') (h : α[n]? = some a) : α'[n]? = some a := by
  obtain ⟨β, rfl⟩ := u.pre
  rw [List.getElem?_append_left (List.getElem?_eq_some_iff.mp h).1]
  exact h

section
variable {P : Addr → Prop} {α α' : List Addr} {e : DE} {w w' : Wd} {σ : L2.St} {H H' : Hp}
theorem Rel.mut (R : Rel P α e w σ H) : ∀ b, Msk P α e σ b → Mut (H b) := fun b m => by
  rcases m with m | m | ⟨i, ds, h1, h2⟩
  · exact R.pt b m
  · obtain ⟨n, hn, rfl⟩ := List.getElem_of_mem m
    have hw : n < w.length := by rw [← R.al]; exact hn
    have q := R.ob n w[n] α[n] (List.getElem?_eq_getElem hw) (List.getElem?_eq_getElem hn)
    revert q
    generalize w[n] = o
    intro q
    cases o with
    | lst ds => obtain ⟨xs, h, _⟩ := q; rw [h]; trivial
    | dct kvs => obtain ⟨xs, h, _⟩ := q; rw [h]; trivial
    | dtt kvs => obtain ⟨xs, h, _⟩ := q; rw [h]; trivial
  · obtain ⟨v, h3, b', xs, h4, h5, _⟩ := R.sl i _ h1
    rw [h2] at h3
    have e1 : V.ref b = v := Option.some.inj (Option.some.inj h3)
    rw [h4] at e1
    cases e1
    rw [h5]
    trivial
theorem mut_some {o : Option HO} (m : Mut o) : ∃ u, o = some u := by
  cases o with
  | none => exact m.elim
  | some u => exact ⟨u, rfl⟩
theorem Rel.known (R : Rel P α e w σ H) {b : Addr} (m : Msk P α e σ b) : H b ≠ none := by
  obtain ⟨u, q⟩ := mut_some (R.mut b m)
  rw [q]
  exact fun z => nomatch z
theorem Msk.up (u : UpE α H α' H') {b : Addr} (m : Msk P α' e σ b) : Msk P α e σ b ∨ H b = none := by
  rcases m with m | m | m
  · exact .inl (.inl m)
  · by_cases hb : b ∈ α
    · exact .inl (.inr (.inl hb))
    · exact .inr (u.fre b m hb)
  · exact .inl (.inr (.inr m))
/-- data is as it was behind an expression -/
theorem Dv.upE {v : V} {d : PyData} (h : Dv (Msk P α e σ) H v d) (u : UpE α H α' H') : Dv (Msk P α' e σ) H' v d :=
  h.up (fun b o q n => u.kp b o q fun hb => n (.inr (.inl hb))) fun b m => Msk.up u m
theorem DvA.upE {v : List V} {d : List PyData} (h : DvA (Msk P α e σ) H v d) (u : UpE α H α' H') : DvA (Msk P α' e σ) H' v d :=
  h.up (fun b o q n => u.kp b o q fun hb => n (.inr (.inl hb))) fun b m => Msk.up u m
theorem pmapQ {A B : Type} {F G : A → B → Prop} : ∀ {l : List A} {m : List B}, Paired F l m → (∀ a b, F a b → G a b) → Paired G l m
  | _, _, .nil, _ => .nil
  | _, _, .cons r t, f => .cons (f _ _ r) (pmapQ t f)
theorem ObIs.up {M M' : Addr → Prop} {a : Addr} {o : WO} (h : ObIs M H a o) (ha : ∀ u, H a = some u → H' a = some u) (hk : ∀ b o, H b = some o → ¬ M b → H' b = some o) (hm : ∀ b, M' b → M b ∨ H b = none) : ObIs M' H' a o := by
  cases o with
  | lst ds => obtain ⟨xs, h1, h2, h3⟩ := h; exact ⟨xs, ha _ h1, h2.up hk hm, h3⟩
  | dct kvs => obtain ⟨vs, h1, h2⟩ := h; exact ⟨vs, ha _ h1, pmapQ h2 fun p q z => ⟨z.1, z.2.up hk hm⟩⟩
  | dtt kvs => obtain ⟨vs, h1, h2⟩ := h; exact ⟨vs, ha _ h1, pmapQ h2 fun p q z => ⟨z.1, z.2.up hk hm⟩⟩
/-- nothing but new objects -/
theorem Rel.same (R : Rel P α e w σ H) (x : Same H H') : Rel P α e w σ H' where
  ln := R.ln
  nd := R.nd
  pa := R.pa
  pt := fun b p => by
    have m := R.pt b p
    obtain ⟨u, q⟩ := mut_some m
    rw [x b u q, ← q]
    exact m
  al := R.al
  ob := fun n o a h1 h2 => (R.ob n o a h1 h2).up (fun u q => x _ u q) (fun b o q _ => x b o q) fun b m => .inl m
  sl := fun i y h => by
    obtain ⟨v, h1, h2⟩ := R.sl i y h
    refine ⟨v, h1, ?_⟩
    cases y with
    | v d => exact Dv.same (show Dv _ H v d from h2) x
    | own ds => obtain ⟨b, xs, e1, e2, e3, e4⟩ := h2; exact ⟨b, xs, e1, x _ _ e2, e3.same x, e4⟩
    | obj n => exact h2
    | scr K ns => exact ScrIs.up (show ScrIs _ H v K ns from h2) (fun b o q _ => x b o q) fun b m => .inl m
  oa := R.oa
  od := R.od
end

/-! ### expressions -/
abbrev X1 := DE → Wd → Option (RS × Wd)
abbrev T1 := DE → Wd → Option (Bool × Wd)
abbrev A1 := DE → Wd → Option (List RS × Wd)
def IsR (P : Addr → Prop) (α : List Addr) (e : DE) (σ : L2.St) (H : Hp) (v : V) : RS → Prop
  | .v d => Dv (Msk P α e σ) H v d
  | .own i => σ[i]? = some (some v) ∧ ∃ ds, e[i]? = some (some (.own ds))
  | .obj n => ∃ a, α[n]? = some a ∧ v = .ref a
  | .scr K ns => ScrIs (Msk P α e σ) H v K ns
theorem IsR.up {P : Addr → Prop} {α α' : List Addr} {e : DE} {σ : L2.St} {H H' : Hp} {v : V} {r : RS} (h : IsR P α e σ H v r) (u : UpE α H α' H') : IsR P α' e σ H' v r := by
  cases r with
  | v d => exact Dv.upE h u
  | own i => exact h
  | obj n => obtain ⟨a, h1, h2⟩ := h; exact ⟨a, u.get h1, h2⟩
  | scr K ns => exact ScrIs.up (show ScrIs _ H v K ns from h) (fun b o q n => u.kp b o q fun hb => n (.inr (.inl hb))) fun b m => Msk.up u m
def IsRs (P : Addr → Prop) (α : List Addr) (e : DE) (σ : L2.St) (H : Hp) : List V → List RS → Prop := Paired fun v r => IsR P α e σ H v r
theorem IsRs.up {P : Addr → Prop} {α α' : List Addr} {e : DE} {σ : L2.St} {H H' : Hp} {v : List V} {r : List RS} (h : IsRs P α e σ H v r) (u : UpE α H α' H') : IsRs P α' e σ H' v r := pmapQ h fun _ _ z => IsR.up z u

def tD (f : X1) : TE := fun σ H Q => ∃ (P : Addr → Prop) (α : List Addr) (e : DE) (w : Wd) (r : RS) (w' : Wd), Rel P α e w σ H ∧ f e w = some (r, w') ∧
  ∀ v H' α', UpE α H α' H' → Rel P α' e w' σ H' → IsR P α' e σ H' v r → Q v H'
def tDT (f : T1) : TT := fun σ H Q => ∃ (P : Addr → Prop) (α : List Addr) (e : DE) (w : Wd) (r : Bool) (w' : Wd), Rel P α e w σ H ∧ f e w = some (r, w') ∧
  ∀ H' α', UpE α H α' H' → Rel P α' e w' σ H' → Q r H'
def tDA (f : A1) : TA := fun σ H Q => ∃ (P : Addr → Prop) (α : List Addr) (e : DE) (w : Wd) (r : List RS) (w' : Wd), Rel P α e w σ H ∧ f e w = some (r, w') ∧
  ∀ vs H' α', UpE α H α' H' → Rel P α' e w' σ H' → IsRs P α' e σ H' vs r → Q vs H'

/-- what stands behind a result, as data -/
def valOf (e : DE) (w : Wd) : RS → Option PyData
  | .v d => some d
  | .own i => match e[i]? with
    | some (some (.own ds)) => some (.list ds)
    | _ => none
  | .obj n => match w[n]? with
    | some (.lst ds) => some (.list ds)
    | _ => none
  | .scr _ _ => none
/-- the same to the heap: its own node may lie in M -/
def Dv0 (M : Addr → Prop) (H : Hp) (v : V) (d : PyData) : Prop := Dv M H v d ∨ ∃ a xs ds, v = .ref a ∧ d = .list ds ∧ H a = some (.lst xs) ∧ DvA M H xs ds ∧ ds.length ≤ LIM
theorem IsR.val {P : Addr → Prop} {α : List Addr} {e : DE} {w : Wd} {σ : L2.St} {H : Hp} {v : V} {r : RS} {d : PyData} (R : Rel P α e w σ H) (h : IsR P α e σ H v r) (hv : valOf e w r = some d) : Dv0 (Msk P α e σ) H v d := by
  cases r with
  | v d' => cases hv; exact .inl h
  | own i =>
    obtain ⟨h1, ds, h2⟩ := h
    unfold valOf at hv
    simp only [h2] at hv
    cases hv
    obtain ⟨v', h3, b, xs, h4, h5, h6⟩ := R.sl i _ h2
    rw [h1] at h3
    have e1 : v = v' := Option.some.inj (Option.some.inj h3)
    subst e1
    exact .inr ⟨b, xs, ds, h4, rfl, h5, h6⟩
  | obj n =>
    obtain ⟨a, h1, rfl⟩ := h
    unfold valOf at hv
    cases hw : w[n]? with
    | none => simp [hw] at hv
    | some o =>
      cases o with
      | lst ds =>
        simp only [hw] at hv
        cases hv
        obtain ⟨xs, h2, h3⟩ := R.ob n _ a hw h1
        exact .inr ⟨a, xs, ds, rfl, rfl, h2, h3⟩
      | dct kvs => simp [hw] at hv
      | dtt kvs => simp [hw] at hv
  | scr K ns => simp [valOf] at hv

section
variable {X : Cx} {x y : Expr} {es : List Expr} {pos : Pos} {f h : X1} {t u : T1} {fs : A1}
theorem _root_.L2.PE.imp {X : Cx} {e : Expr} {t t' : TE} (p : PE X e t) (h : ∀ σ H Q, t' σ H Q → t σ H Q) : PE X e t' := ⟨fun pins s σ H Q I q => p.run pins s σ H Q I (h σ H Q q)⟩
theorem _root_.L2.PT.imp {X : Cx} {e : Expr} {t t' : TT} (p : PT X e t) (h : ∀ σ H Q, t' σ H Q → t σ H Q) : PT X e t' := ⟨fun pins s σ H Q I q => p.run pins s σ H Q I (h σ H Q q)⟩
theorem _root_.L2.PA.imp {X : Cx} {e : List Expr} {t t' : TA} (p : PA X e t) (h : ∀ σ H Q, t' σ H Q → t σ H Q) : PA X e t' := ⟨fun pos pins s σ H Q I q => p.run pos pins s σ H Q I (h σ H Q q)⟩
theorem _root_.L2.PS.imp {X : Cx} {e : Stmt} {t t' : TS} (p : PS X e t) (h : ∀ D σ H, t' D σ H → t D σ H) : PS X e t' := ⟨fun pins s σ H D I q => p.run pins s σ H D I (h D σ H q)⟩
theorem _root_.L2.PSs.imp {X : Cx} {e : List Stmt} {t t' : TS} (p : PSs X e t) (h : ∀ D σ H, t' D σ H → t D σ H) : PSs X e t' := ⟨fun pins s σ H D I q => p.run pins s σ H D I (h D σ H q)⟩

/-! names, constants -/
def xVar (i : Nat) : X1 := fun e w => match e[i]? with
  | some (some (.v d)) => some (.v d, w)
  | some (some (.own _)) => some (.own i, w)
  | some (some (.obj n)) => some (.obj n, w)
  | some (some (.scr K ns)) => some (.scr K ns, w)
  | _ => none
theorem d_var {i : Nat} (p : PE X x (tVar i)) : PE X x (tD (xVar i)) := p.imp fun σ H Q q => by
  obtain ⟨P, α, e, w, r, w', R, hf, k⟩ := q
  unfold xVar at hf
  cases he : e[i]? with
  | none => simp [he] at hf
  | some o =>
    cases o with
    | none => simp [he] at hf
    | some z =>
      obtain ⟨v, h1, h2⟩ := R.sl i z he
      refine ⟨v, h1, ?_⟩
      cases z with
      | v d =>
        simp only [he] at hf
        cases hf
        exact k v H α (.refl α H) R h2
      | own ds =>
        simp only [he] at hf
        cases hf
        exact k v H α (.refl α H) R ⟨h1, ds, he⟩
      | obj n =>
        simp only [he] at hf
        cases hf
        exact k v H α (.refl α H) R h2
      | scr K ns =>
        simp only [he] at hf
        cases hf
        exact k v H α (.refl α H) R h2
def xC (d : PyData) : X1 := fun _ w => some (.v d, w)
theorem d_c {v : V} {d : PyData} (p : PE X x (tC v)) (a : AtV v d) : PE X x (tD (xC d)) := p.imp fun σ H Q q => by
  obtain ⟨P, α, e, w, r, w', R, hf, k⟩ := q
  cases hf
  exact k v H α (.refl α H) R (.atm a)
theorem d_int {i j} : PE X (.Constant (.int i) j pos) (tD (xC (.int i))) := d_c pe_int (.int i)
theorem d_bl {i j} : PE X (.Constant (.bool i) j pos) (tD (xC (.bool i))) := d_c pe_bl (.bl i)
theorem d_non {j} : PE X (.Constant .none j pos) (tD (xC .none)) := d_c pe_non .non
theorem d_str {i j} : PE X (.Constant (.str i) j pos) (tD (xC (.str i))) := d_c pe_str (.str i)
theorem d_glob {n : Str} {v : V} {d : PyData} {u : Value} (hg : Gl X n) (hm : X.mg n = some u) (r : RelV v u) (a : AtV v d) (hd : (n == ("__debug__" : Str)) = false := by decide) : PE X (.Name n pos) (tD (xC d)) := d_c (pe_glob hg hm r hd) a

/-! pure operations, on values -/
/-- g tells what the operation gives -/
def Pure1 (r : V → Hp → VK → Prop) (g : PyData → Option PyData) : Prop := ∀ (M : Addr → Prop) (H : Hp) (x : V) (d z : PyData) (Q : VK), (∀ b, M b → Mut (H b)) → Dv0 M H x d → g d = some z →
  (∀ v H', Same H H' → Dv M H' v z → Q v H') → r x H Q
def Pure2 (r : R2) (g : PyData → PyData → Option PyData) : Prop := ∀ (M : Addr → Prop) (H : Hp) (x y : V) (d e z : PyData) (Q : VK), (∀ b, M b → Mut (H b)) → Dv0 M H x d → Dv0 M H y e → g d e = some z →
  (∀ v H', Same H H' → Dv M H' v z → Q v H') → r x y H Q
def PureN (r : List V → Hp → VK → Prop) (g : List PyData → Option PyData) : Prop := ∀ (M : Addr → Prop) (H : Hp) (xs : List V) (ds : List PyData) (z : PyData) (Q : VK), (∀ b, M b → Mut (H b)) → Paired (Dv0 M H) xs ds → g ds = some z →
  (∀ v H', Same H H' → Dv M H' v z → Q v H') → r xs H Q
def x1 (g : PyData → Option PyData) (f : X1) : X1 := fun e w => match f e w with
  | some (r, w1) => match valOf e w1 r with
    | some d => (g d).map fun z => (.v z, w1)
    | none => none
  | none => none
def x2 (g : PyData → PyData → Option PyData) (f h : X1) : X1 := fun e w => match f e w with
  | some (r, w1) => match h e w1 with
    | some (q, w2) => match valOf e w2 r, valOf e w2 q with
      | some d, some d' => (g d d').map fun z => (.v z, w2)
      | _, _ => none
    | none => none
  | none => none
def valsOf (e : DE) (w : Wd) : List RS → Option (List PyData)
  | [] => some []
  | r :: rs => match valOf e w r, valsOf e w rs with
    | some d, some ds => some (d :: ds)
    | _, _ => none
def xN (g : List PyData → Option PyData) (fs : A1) : X1 := fun e w => match fs e w with
  | some (rs, w1) => match valsOf e w1 rs with
    | some ds => (g ds).map fun z => (.v z, w1)
    | none => none
  | none => none
theorem vals_of {P : Addr → Prop} {α : List Addr} {e : DE} {w : Wd} {σ : L2.St} {H : Hp} (R : Rel P α e w σ H) : ∀ {vs : List V} {rs : List RS} {ds : List PyData}, IsRs P α e σ H vs rs → valsOf e w rs = some ds → Paired (Dv0 (Msk P α e σ) H) vs ds
  | _, _, _, .nil, q => by cases q; exact .nil
  | _, r :: rs, ds, .cons a b, q => by
    unfold valsOf at q
    cases h1 : valOf e w r with
    | none => simp [h1] at q
    | some d =>
      cases h2 : valsOf e w rs with
      | none => simp [h1, h2] at q
      | some ds' =>
        simp only [h1, h2] at q
        cases q
        exact .cons (a.val R h1) (vals_of R b h2)
theorem step1 {r : V → Hp → VK → Prop} {g : PyData → Option PyData} (hp : Pure1 r g) {f : X1} {σ : L2.St} {H : Hp} {Q : VK} (q : tD (x1 g f) σ H Q) : (tD f) σ H fun v H1 => r v H1 Q := by
  obtain ⟨P, α, e, w, r1, w', R, hf, k⟩ := q
  unfold x1 at hf
  cases h1 : f e w with
  | none => simp [h1] at hf
  | some p =>
    obtain ⟨ra, w1⟩ := p
    simp only [h1] at hf
    cases h2 : valOf e w1 ra with
    | none => simp [h2] at hf
    | some d =>
      simp only [h2] at hf
      cases h3 : g d with
      | none => simp [h3] at hf
      | some z =>
        simp only [h3, Option.map_some] at hf
        cases hf
        refine ⟨P, α, e, w, ra, _, R, h1, fun v H1 α1 u1 R1 i1 => ?_⟩
        exact hp (Msk P α1 e σ) H1 v d z Q R1.mut (i1.val R1 h2) h3 fun v2 H2 sm hv => k v2 H2 α1 (u1.trans (.of_same sm)) (R1.same sm) hv
theorem step2 {r : R2} {g : PyData → PyData → Option PyData} (hp : Pure2 r g) {f h : X1} {σ : L2.St} {H : Hp} {Q : VK} (q : tD (x2 g f h) σ H Q) : (tD f) σ H fun v H1 => tD h σ H1 fun u H2 => r v u H2 Q := by
  obtain ⟨P, α, e, w, r1, w', R, hf, k⟩ := q
  unfold x2 at hf
  cases h1 : f e w with
  | none => simp [h1] at hf
  | some p =>
    obtain ⟨ra, w1⟩ := p
    simp only [h1] at hf
    cases h2 : h e w1 with
    | none => simp [h2] at hf
    | some p =>
      obtain ⟨rb, w2⟩ := p
      simp only [h2] at hf
      cases h3 : valOf e w2 ra with
      | none => simp [h3] at hf
      | some d =>
        cases h4 : valOf e w2 rb with
        | none => simp [h3, h4] at hf
        | some d' =>
          simp only [h3, h4] at hf
          cases h5 : g d d' with
          | none => simp [h5] at hf
          | some z =>
            simp only [h5, Option.map_some] at hf
            cases hf
            refine ⟨P, α, e, w, ra, w1, R, h1, fun v H1 α1 u1 R1 i1 => ⟨P, α1, e, w1, rb, _, R1, h2, fun v2 H2 α2 u2 R2 i2 => ?_⟩⟩
            exact hp (Msk P α2 e σ) H2 v v2 d d' z Q R2.mut ((i1.up u2).val R2 h3) (i2.val R2 h4) h5 fun v3 H3 sm hv => k v3 H3 α2 ((u1.trans u2).trans (.of_same sm)) (R2.same sm) hv
theorem stepN {r : List V → Hp → VK → Prop} {g : List PyData → Option PyData} (hp : PureN r g) {fs : A1} {σ : L2.St} {H : Hp} {Q : VK} (q : tD (xN g fs) σ H Q) : (tDA fs) σ H fun vs H1 => r vs H1 Q := by
  obtain ⟨P, α, e, w, r1, w', R, hf, k⟩ := q
  unfold xN at hf
  cases h1 : fs e w with
  | none => simp [h1] at hf
  | some p =>
    obtain ⟨rs, w1⟩ := p
    simp only [h1] at hf
    cases h2 : valsOf e w1 rs with
    | none => simp [h2] at hf
    | some ds =>
      simp only [h2] at hf
      cases h3 : g ds with
      | none => simp [h3] at hf
      | some z =>
        simp only [h3, Option.map_some] at hf
        cases hf
        refine ⟨P, α, e, w, rs, _, R, h1, fun vs H1 α1 u1 R1 i1 => ?_⟩
        exact hp (Msk P α1 e σ) H1 vs ds z Q R1.mut (vals_of R1 i1 h2) h3 fun v2 H2 sm hv => k v2 H2 α1 (u1.trans (.of_same sm)) (R1.same sm) hv
theorem d_op {op : Operator} {r : R2} {g : PyData → PyData → Option PyData} (ho : OpR X (binaryOp op) r) (hp : Pure2 r g) (a : PE X x (tD f)) (b : PE X y (tD h)) : PE X (.BinOp x op y pos) (tD (x2 g f h)) := (pe_op ho a b).imp fun _ _ _ q => step2 hp q
theorem d_cmp {op : CmpOp} {r : R2} {g : PyData → PyData → Option PyData} (ho : OpR X (compareOp op) r) (hp : Pure2 r g) (a : PE X x (tD f)) (b : PE X y (tD h)) (hm : behindInMarks op y = false) : PE X (.Compare x [op] [y] pos) (tD (x2 g f h)) := (pe_cmpR ho a b hm).imp fun _ _ _ q => step2 hp q
theorem d_un {op : UnaryOp} {r : V → Hp → VK → Prop} {g : PyData → Option PyData} (ho : UnR X (unaryOp op) r) (hp : Pure1 r g) (a : PE X x (tD f)) : PE X (.UnaryOp op x pos) (tD (x1 g f)) := (pe_un ho a).imp fun _ _ _ q => step1 hp q
theorem d_ix {r : R2} {g : PyData → PyData → Option PyData} (hr : IxR X r) (hp : Pure2 r g) (a : PE X x (tD f)) (b : PE X y (tD h)) (hs : PlainIx y) : PE X (.Subscript x y pos) (tD (x2 g f h)) := (pe_ix hr a b hs).imp fun _ _ _ q => step2 hp q
theorem d_callB {n : Str} {p : Pos} {id : String} {r : List V → Hp → VK → Prop} {g : List PyData → Option PyData} (hc : CallR X (.builtin id) r) (hp : PureN r g) (hg : Gl X n) (hm : X.mg n = none) (hv : bootBuiltins n = some (.builtin id)) (ha : PA X (x :: es) (tDA fs))
    (hn : n ≠ "__name__" := by decide) (hdb : (n == ("__debug__" : Str)) = false := by decide) (he : starEach (x :: es) X.env = (false, eval x X.env) :: starEach es X.env := by rfl) (hpl : (backTo pos (starEach es X.env)).any (·.1) = false := by rfl) :
    PE X (.Call (.Name n p) (x :: es) [] pos) (tD (xN g fs)) := (pe_callB hc hg hm hv ha hn hdb he hpl).imp fun _ _ _ q => stepN hp q
theorem d_callTy {n : Str} {p : Pos} {T : String} {r : List V → Hp → VK → Prop} {g : List PyData → Option PyData} (hc : CallR X (.type T) r) (hp : PureN r g) (hg : Gl X n) (hm : X.mg n = none) (hv : bootBuiltins n = some (.type T)) (ha : PA X (x :: es) (tDA fs))
    (hn : n ≠ "__name__" := by decide) (hdb : (n == ("__debug__" : Str)) = false := by decide) (he : starEach (x :: es) X.env = (false, eval x X.env) :: starEach es X.env := by rfl) (hpl : (backTo pos (starEach es X.env)).any (·.1) = false := by rfl) :
    PE X (.Call (.Name n p) (x :: es) [] pos) (tD (xN g fs)) := (pe_callTy hc hg hm hv ha hn hdb he hpl).imp fun _ _ _ q => stepN hp q

/-! argument lists, displays -/
def aNil : A1 := fun _ w => some ([], w)
def aCons (f : X1) (fs : A1) : A1 := fun e w => match f e w with
  | some (r, w1) => match fs e w1 with
    | some (rs, w2) => some (r :: rs, w2)
    | none => none
  | none => none
theorem da_nil : PA X [] (tDA aNil) := pa_nil.imp fun σ H Q q => by
  obtain ⟨P, α, e, w, r, w', R, hf, k⟩ := q
  cases hf
  exact k [] H α (.refl α H) R .nil
theorem da_cons (a : PE X x (tD f)) (b : PA X es (tDA fs)) (hs : starEach (x :: es) X.env = (false, eval x X.env) :: starEach es X.env := by rfl) : PA X (x :: es) (tDA (aCons f fs)) := (pa_cons a b hs).imp fun σ H Q q => by
  obtain ⟨P, α, e, w, r, w', R, hf, k⟩ := q
  unfold aCons at hf
  cases h1 : f e w with
  | none => simp [h1] at hf
  | some p =>
    obtain ⟨ra, w1⟩ := p
    simp only [h1] at hf
    cases h2 : fs e w1 with
    | none => simp [h2] at hf
    | some p =>
      obtain ⟨rb, w2⟩ := p
      simp only [h2] at hf
      cases hf
      exact ⟨P, α, e, w, ra, w1, R, h1, fun v H1 α1 u1 R1 i1 => ⟨P, α1, e, w1, rb, _, R1, h2, fun vs H2 α2 u2 R2 i2 => k (v :: vs) H2 α2 (u1.trans u2) R2 (.cons (i1.up u2) i2)⟩⟩
/-- the data of a display's items: none may be of the def's own lists -/
def dataOf : List RS → Option (List PyData)
  | [] => some []
  | .v d :: rs => (dataOf rs).map (d :: ·)
  | _ :: _ => none
theorem data_of {P : Addr → Prop} {α : List Addr} {e : DE} {σ : L2.St} {H : Hp} : ∀ {vs : List V} {rs : List RS} {ds : List PyData}, IsRs P α e σ H vs rs → dataOf rs = some ds → DvA (Msk P α e σ) H vs ds
  | _, _, _, .nil, q => by cases q; exact .nil
  | _, .v d :: rs, ds, .cons a b, q => by
    cases h : dataOf rs with
    | none => simp [dataOf, h] at q
    | some ds' =>
      simp only [dataOf, h, Option.map_some] at q
      cases q
      exact .cons a (data_of b h)
  | _, .own _ :: _, _, .cons _ _, q => by simp [dataOf] at q
  | _, .obj _ :: _, _, .cons _ _, q => by simp [dataOf] at q
  | _, .scr _ _ :: _, _, .cons _ _, q => by simp [dataOf] at q
def xTup (fs : A1) : X1 := fun e w => match fs e w with
  | some (rs, w1) => match dataOf rs with
    | some ds => some (.v (.tuple ds), w1)
    | none => none
  | none => none
def xLst (fs : A1) : X1 := fun e w => match fs e w with
  | some (rs, w1) => match dataOf rs with
    | some ds => some (.v (.list ds), w1)
    | none => none
  | none => none
theorem same_upd {H : Hp} {p : Addr} {o : HO} (h : H p = none) : Same H (upd H p o) := fun b x e => by rw [upd_ne (ne_of_none e h)]; exact e
theorem fresh_mut {H : Hp} {M : Addr → Prop} (hm : ∀ b, M b → Mut (H b)) {p : Addr} (h : H p = none) : ¬ M p := fun m => by
  have := hm p m
  rw [h] at this
  exact this
theorem len_args : ∀ (fs : A1) (n : Nat), (∀ e w rs w', fs e w = some (rs, w') → rs.length = n) → True := fun _ _ _ => trivial
theorem data_len : ∀ {rs : List RS} {ds : List PyData}, dataOf rs = some ds → ds.length = rs.length
  | [], _, h => by cases h; rfl
  | .v d :: rs, ds, h => by
    cases q : dataOf rs with
    | none => simp [dataOf, q] at h
    | some ds' =>
      simp only [dataOf, q, Option.map_some] at h
      cases h
      simp [data_len q]
  | .own _ :: _, _, h => by simp [dataOf] at h
  | .obj _ :: _, _, h => by simp [dataOf] at h
  | .scr _ _ :: _, _, h => by simp [dataOf] at h
/-- so many written items -/
structure ALen (fs : A1) (n : Nat) : Prop where
  ln : ∀ e w rs w', fs e w = some (rs, w') → rs.length = n
theorem aLen_nil : ALen aNil 0 := ⟨fun e w rs w' h => by cases h; rfl⟩
theorem aLen_cons {n : Nat} (h : ALen fs n) : ALen (aCons f fs) (n + 1) := ⟨fun e w rs w' q => by
  unfold aCons at q
  cases h1 : f e w with
  | none => simp [h1] at q
  | some p =>
    obtain ⟨ra, w1⟩ := p
    simp only [h1] at q
    cases h2 : fs e w1 with
    | none => simp [h2] at q
    | some p =>
      obtain ⟨rb, w2⟩ := p
      simp only [h2] at q
      cases q
      simp [h.ln _ _ _ _ h2]⟩
theorem d_tup {x1} {n : Nat} (h : PA X es (tDA fs)) (hl : ALen fs n) (hn : n ≤ LIM := by decide) : PE X (.Tuple es x1 pos) (tD (xTup fs)) := (pe_tup h).imp fun σ H Q q => by
  obtain ⟨P, α, e, w, r, w', R, hf, k⟩ := q
  unfold xTup at hf
  cases h1 : fs e w with
  | none => simp [h1] at hf
  | some p =>
    obtain ⟨rs, w1⟩ := p
    simp only [h1] at hf
    cases h2 : dataOf rs with
    | none => simp [h2] at hf
    | some ds =>
      simp only [h2] at hf
      cases hf
      refine ⟨P, α, e, w, rs, _, R, h1, fun vs H1 α1 u1 R1 i1 => ?_⟩
      have dv := data_of i1 h2
      have l1 : ds.length ≤ LIM := by rw [data_len h2, hl.ln _ _ _ _ h1]; exact hn
      refine ⟨by rw [dv.length]; exact lim_le l1, fun p hp => ?_⟩
      have sm : Same H1 (upd H1 p (.tup vs)) := same_upd hp
      exact k _ _ α1 (u1.trans (.of_same sm)) (R1.same sm) (.tup (fresh_mut R1.mut hp) upd_same l1 (dv.same sm))
theorem d_lst {n : Nat} (h : PA X es (tDA fs)) (hl : ALen fs n) (hn : n ≤ LIM := by decide) : PE X (.List es pos) (tD (xLst fs)) := (pe_lst h).imp fun σ H Q q => by
  obtain ⟨P, α, e, w, r, w', R, hf, k⟩ := q
  unfold xLst at hf
  cases h1 : fs e w with
  | none => simp [h1] at hf
  | some p =>
    obtain ⟨rs, w1⟩ := p
    simp only [h1] at hf
    cases h2 : dataOf rs with
    | none => simp [h2] at hf
    | some ds =>
      simp only [h2] at hf
      cases hf
      refine ⟨P, α, e, w, rs, _, R, h1, fun vs H1 α1 u1 R1 i1 => ?_⟩
      have dv := data_of i1 h2
      have l1 : ds.length ≤ LIM := by rw [data_len h2, hl.ln _ _ _ _ h1]; exact hn
      refine ⟨by rw [dv.length]; exact lim_le l1, fun p hp => ?_⟩
      have sm : Same H1 (upd H1 p (.lst vs)) := same_upd hp
      exact k _ _ α1 (u1.trans (.of_same sm)) (R1.same sm) (.lst (fresh_mut R1.mut hp) (.inl upd_same) l1 (dv.same sm))
end
end DL
namespace DL
open PySem PySem.Spec PyProof.Rows L2

section
variable {X : Cx} {x y : Expr} {es : List Expr} {pos : Pos} {f h k : X1} {t u : T1} {fs : A1}
theorem bl_of {M : Addr → Prop} {H : Hp} {v : V} {b : Bool} (q : Dv M H v (.bool b)) : v = .bl b := by
  cases q with | atm a => cases a; rfl
theorem int_of {M : Addr → Prop} {H : Hp} {v : V} {b : Int} (q : Dv M H v (.int b)) : v = .int b := by
  cases q with | atm a => cases a; rfl
/-! ### tests -/
def tBool (f : X1) : T1 := fun e w => match f e w with
  | some (.v (.bool b), w1) => some (b, w1)
  | _ => none
theorem tBool_step {σ : L2.St} {H : Hp} {Q : Bool → Hp → Prop} (q : tDT (tBool f) σ H Q) : (tD f) σ H fun x H1 => ∃ c, x = .bl c ∧ Q c H1 := by
  obtain ⟨P, α, e, w, r, w', R, hf, k⟩ := q
  unfold tBool at hf
  cases h1 : f e w with
  | none => simp [h1] at hf
  | some p =>
    obtain ⟨ra, w1⟩ := p
    simp only [h1] at hf
    match ra, h1, hf with
    | .v (.bool b), h1, hf =>
      cases hf
      exact ⟨P, α, e, w, _, _, R, h1, fun v H1 α1 u1 R1 i1 => ⟨_, bl_of i1, k H1 α1 u1 R1⟩⟩
theorem dt_val (a : PE X x (tD f)) (he : ∀ whole, isTrue x X.env whole = (do let v ← whole; standAt x.pos; holding [v] (truthy v)) := by intro _; rfl) : PT X x (tDT (tBool f)) := (pt_val a he).imp fun _ _ _ q => tBool_step q
theorem dt_cmp {op : CmpOp} {r : R2} {g : PyData → PyData → Option PyData} (ho : OpR X (compareOp op) r) (hp : Pure2 r g) (a : PE X x (tD f)) (b : PE X y (tD h)) (hm : behindInMarks op y = false) : PT X (.Compare x [op] [y] pos) (tDT (tBool (x2 g f h))) :=
  (pt_cmpR ho a b hm).imp fun _ _ _ q => step2 hp (tBool_step q)
def tNotB (t : T1) : T1 := fun e w => match t e w with
  | some (b, w1) => some (!b, w1)
  | none => none
theorem dt_not (a : PT X x (tDT t)) : PT X (.UnaryOp .Not x pos) (tDT (tNotB t)) := (pt_not a).imp fun σ H Q q => by
  obtain ⟨P, α, e, w, r, w', R, hf, k⟩ := q
  unfold tNotB at hf
  cases h1 : t e w with
  | none => simp [h1] at hf
  | some p =>
    simp only [h1] at hf
    cases hf
    exact ⟨P, α, e, w, _, _, R, h1, fun H1 α1 u1 R1 => k H1 α1 u1 R1⟩
def tAndB (t u : T1) : T1 := fun e w => match t e w with
  | some (true, w1) => u e w1
  | some (false, w1) => some (false, w1)
  | none => none
def tOrB (t u : T1) : T1 := fun e w => match t e w with
  | some (false, w1) => u e w1
  | some (true, w1) => some (true, w1)
  | none => none
theorem dw_and1 (a : PT X x (tDT t)) : PW X (.BoolOp .And [x] pos) (tDT t) := pw_and1 a
theorem dw_or1 (a : PT X x (tDT t)) : PW X (.BoolOp .Or [x] pos) (tDT t) := pw_or1 a
theorem _root_.L2.PW.imp {X : Cx} {e : Expr} {t t' : TT} (p : PW X e t) (h : ∀ σ H Q, t' σ H Q → t σ H Q) : PW X e t' := ⟨fun wh pins s σ H Q I q => p.run wh pins s σ H Q I (h σ H Q q)⟩
theorem dw_and {rest : List Expr} (a : PT X x (tDT t)) (b : PW X (.BoolOp .And (y :: rest) pos) (tDT u)) : PW X (.BoolOp .And (x :: y :: rest) pos) (tDT (tAndB t u)) := (pw_and a b).imp fun σ H Q q => by
  obtain ⟨P, α, e, w, r, w', R, hf, k⟩ := q
  unfold tAndB at hf
  cases h1 : t e w with
  | none => simp [h1] at hf
  | some p =>
    obtain ⟨c, w1⟩ := p
    refine ⟨P, α, e, w, c, w1, R, h1, fun H1 α1 u1 R1 => ?_⟩
    cases c with
    | true =>
      simp only [h1] at hf
      rw [if_pos rfl]
      exact ⟨P, α1, e, w1, r, w', R1, hf, fun H2 α2 u2 R2 => k H2 α2 (u1.trans u2) R2⟩
    | false =>
      simp only [h1] at hf
      cases hf
      rw [if_neg Bool.false_ne_true]
      exact k H1 α1 u1 R1
theorem dw_or {rest : List Expr} (a : PT X x (tDT t)) (b : PW X (.BoolOp .Or (y :: rest) pos) (tDT u)) : PW X (.BoolOp .Or (x :: y :: rest) pos) (tDT (tOrB t u)) := (pw_or a b).imp fun σ H Q q => by
  obtain ⟨P, α, e, w, r, w', R, hf, k⟩ := q
  unfold tOrB at hf
  cases h1 : t e w with
  | none => simp [h1] at hf
  | some p =>
    obtain ⟨c, w1⟩ := p
    refine ⟨P, α, e, w, c, w1, R, h1, fun H1 α1 u1 R1 => ?_⟩
    cases c with
    | false =>
      simp only [h1] at hf
      rw [if_neg Bool.false_ne_true]
      exact ⟨P, α1, e, w1, r, w', R1, hf, fun H2 α2 u2 R2 => k H2 α2 (u1.trans u2) R2⟩
    | true =>
      simp only [h1] at hf
      cases hf
      rw [if_pos rfl]
      exact k H1 α1 u1 R1
/-! ### and, or, not, chains, if as values -/
def xAnd (f h : X1) : X1 := fun e w => match f e w with
  | some (.v (.bool true), w1) => h e w1
  | some (.v (.bool false), w1) => some (.v (.bool false), w1)
  | _ => none
def xOr (f h : X1) : X1 := fun e w => match f e w with
  | some (.v (.bool false), w1) => h e w1
  | some (.v (.bool true), w1) => some (.v (.bool true), w1)
  | _ => none
theorem d_one {op} (a : PE X x (tD f)) : PE X (.BoolOp op [x] pos) (tD f) := pe_one a
theorem xAnd_inv {f h : X1} {e : DE} {w : Wd} {q : RS × Wd} (hf : xAnd f h e w = some q) : ∃ b w1, f e w = some (.v (.bool b), w1) ∧ ((b = true ∧ h e w1 = some q) ∨ (b = false ∧ q = (.v (.bool false), w1))) := by
  unfold xAnd at hf
  split at hf
  · exact ⟨true, _, by assumption, .inl ⟨rfl, hf⟩⟩
  · exact ⟨false, _, by assumption, .inr ⟨rfl, (Option.some.inj hf).symm⟩⟩
  · cases hf
theorem xOr_inv {f h : X1} {e : DE} {w : Wd} {q : RS × Wd} (hf : xOr f h e w = some q) : ∃ b w1, f e w = some (.v (.bool b), w1) ∧ ((b = false ∧ h e w1 = some q) ∨ (b = true ∧ q = (.v (.bool true), w1))) := by
  unfold xOr at hf
  split at hf
  · exact ⟨false, _, by assumption, .inl ⟨rfl, hf⟩⟩
  · exact ⟨true, _, by assumption, .inr ⟨rfl, (Option.some.inj hf).symm⟩⟩
  · cases hf
theorem d_and {rest : List Expr} (a : PE X x (tD f)) (b : PE X (.BoolOp .And (y :: rest) pos) (tD h)) : PE X (.BoolOp .And (x :: y :: rest) pos) (tD (xAnd f h)) := (pe_and a b).imp fun σ H Q q => by
  obtain ⟨P, α, e, w, r, w', R, hf, k⟩ := q
  obtain ⟨c, w1, h1, hf⟩ := xAnd_inv hf
  refine ⟨P, α, e, w, _, w1, R, h1, fun v H1 α1 u1 R1 i1 => ⟨c, bl_of i1, ?_⟩⟩
  rcases hf with ⟨rfl, hf⟩ | ⟨rfl, hf⟩
  · rw [if_pos rfl]
    exact ⟨P, α1, e, w1, r, w', R1, hf, fun v2 H2 α2 u2 R2 i2 => k v2 H2 α2 (u1.trans u2) R2 i2⟩
  · cases hf
    rw [if_neg Bool.false_ne_true]
    exact k _ H1 α1 u1 R1 (.atm (.bl false))
theorem d_or {rest : List Expr} (a : PE X x (tD f)) (b : PE X (.BoolOp .Or (y :: rest) pos) (tD h)) : PE X (.BoolOp .Or (x :: y :: rest) pos) (tD (xOr f h)) := (pe_or a b).imp fun σ H Q q => by
  obtain ⟨P, α, e, w, r, w', R, hf, k⟩ := q
  obtain ⟨c, w1, h1, hf⟩ := xOr_inv hf
  refine ⟨P, α, e, w, _, w1, R, h1, fun v H1 α1 u1 R1 i1 => ⟨c, bl_of i1, ?_⟩⟩
  rcases hf with ⟨rfl, hf⟩ | ⟨rfl, hf⟩
  · rw [if_neg Bool.false_ne_true]
    exact ⟨P, α1, e, w1, r, w', R1, hf, fun v2 H2 α2 u2 R2 i2 => k v2 H2 α2 (u1.trans u2) R2 i2⟩
  · cases hf
    rw [if_pos rfl]
    exact k _ H1 α1 u1 R1 (.atm (.bl true))
def xNot (f : X1) : X1 := fun e w => match f e w with
  | some (.v (.bool b), w1) => some (.v (.bool (!b)), w1)
  | _ => none
theorem d_not (a : PE X x (tD f)) : PE X (.UnaryOp .Not x pos) (tD (xNot f)) := (pe_not a).imp fun σ H Q q => by
  obtain ⟨P, α, e, w, r, w', R, hf, k⟩ := q
  unfold xNot at hf
  split at hf
  · rename_i b w1 h1
    cases hf
    exact ⟨P, α, e, w, _, _, R, h1, fun v H1 α1 u1 R1 i1 => ⟨b, bl_of i1, k _ H1 α1 u1 R1 (.atm (.bl _))⟩⟩
  · cases hf
def xIf (t : T1) (f h : X1) : X1 := fun e w => match t e w with
  | some (true, w1) => f e w1
  | some (false, w1) => h e w1
  | none => none
theorem d_if {c : Expr} (a : PT X c (tDT t)) (b : PE X x (tD f)) (d : PE X y (tD h)) : PE X (.IfExp c x y pos) (tD (xIf t f h)) := (pe_ifExp a b d).imp fun σ H Q q => by
  obtain ⟨P, α, e, w, r, w', R, hf, k⟩ := q
  unfold xIf at hf
  cases h1 : t e w with
  | none => simp [h1] at hf
  | some p =>
    obtain ⟨c, w1⟩ := p
    refine ⟨P, α, e, w, c, w1, R, h1, fun H1 α1 u1 R1 => ?_⟩
    simp only [h1] at hf
    cases c with
    | true =>
      rw [if_pos rfl]
      exact ⟨P, α1, e, w1, r, w', R1, hf, fun v2 H2 α2 u2 R2 i2 => k v2 H2 α2 (u1.trans u2) R2 i2⟩
    | false =>
      rw [if_neg Bool.false_ne_true]
      exact ⟨P, α1, e, w1, r, w', R1, hf, fun v2 H2 α2 u2 R2 i2 => k v2 H2 α2 (u1.trans u2) R2 i2⟩
/-- a op b op' c -/
def xChain (g g' : PyData → PyData → Option PyData) (f h k : X1) : X1 := fun e w => match f e w with
  | some (ra, w1) => match h e w1 with
    | some (rb, w2) => match valOf e w2 ra, valOf e w2 rb with
      | some d, some d' => match g d d' with
        | some (.bool true) => match k e w2 with
          | some (rc, w3) => match valOf e w3 rb, valOf e w3 rc with
            | some d2, some d3 => (g' d2 d3).map fun z => (.v z, w3)
            | _, _ => none
          | none => none
        | some (.bool false) => some (.v (.bool false), w2)
        | _ => none
      | _, _ => none
    | none => none
  | none => none
theorem chain_step {r r' : R2} {g g' : PyData → PyData → Option PyData} (hp : Pure2 r g) (hp' : Pure2 r' g') {σ : L2.St} {H : Hp} {Q : VK} (q : tD (xChain g g' f h k) σ H Q) : tChain r r' (tD f) (tD h) (tD k) σ H Q := by
  obtain ⟨P, α, e, w, r1, w', R, hf, kk⟩ := q
  unfold xChain at hf
  cases h1 : f e w with
  | none => simp [h1] at hf
  | some p =>
    obtain ⟨ra, w1⟩ := p
    simp only [h1] at hf
    cases h2 : h e w1 with
    | none => simp [h2] at hf
    | some p =>
      obtain ⟨rb, w2⟩ := p
      simp only [h2] at hf
      cases h3 : valOf e w2 ra with
      | none => simp [h3] at hf
      | some d =>
        cases h4 : valOf e w2 rb with
        | none => simp [h3, h4] at hf
        | some d' =>
          simp only [h3, h4] at hf
          refine ⟨P, α, e, w, ra, w1, R, h1, fun v H1 α1 u1 R1 i1 => ⟨P, α1, e, w1, rb, w2, R1, h2, fun v2 H2 α2 u2 R2 i2 => ?_⟩⟩
          cases h5 : g d d' with
          | none => simp [h5] at hf
          | some z =>
            simp only [h5] at hf
            refine hp (Msk P α2 e σ) H2 v v2 d d' z _ R2.mut ((i1.up u2).val R2 h3) (i2.val R2 h4) h5 fun v3 H3 sm hv => ?_
            match z, hv, hf with
            | .bool false, hv, hf =>
              cases hf
              refine ⟨false, bl_of hv, ?_⟩
              rw [if_neg Bool.false_ne_true]
              exact kk _ H3 α2 ((u1.trans u2).trans (.of_same sm)) (R2.same sm) (.atm (.bl false))
            | .bool true, hv, hf =>
              refine ⟨true, bl_of hv, ?_⟩
              rw [if_pos rfl]
              cases h6 : k e w2 with
              | none => simp [h6] at hf
              | some p =>
                obtain ⟨rc, w3⟩ := p
                simp only [h6] at hf
                cases h7 : valOf e w3 rb with
                | none => simp [h7] at hf
                | some d2 =>
                  cases h8 : valOf e w3 rc with
                  | none => simp [h7, h8] at hf
                  | some d3 =>
                    simp only [h7, h8] at hf
                    cases h9 : g' d2 d3 with
                    | none => simp [h9] at hf
                    | some z2 =>
                      simp only [h9, Option.map_some] at hf
                      cases hf
                      refine ⟨P, α2, e, w2, rc, w', R2.same sm, h6, fun v4 H4 α4 u4 R4 i4 => ?_⟩
                      have u3 : UpE α2 H2 α4 H4 := (UpE.of_same sm).trans u4
                      exact hp' (Msk P α4 e σ) H4 v2 v4 d2 d3 z2 Q R4.mut ((i2.up u3).val R4 h7) (i4.val R4 h8) h9 fun v5 H5 sm5 hv5 => kk v5 H5 α4 ((u1.trans (u2.trans u3)).trans (.of_same sm5)) (R4.same sm5) hv5
theorem d_chain {op op' : CmpOp} {z : Expr} {r r' : R2} {g g' : PyData → PyData → Option PyData} (ho : OpR X (compareOp op) r) (ho' : OpR X (compareOp op') r') (hp : Pure2 r g) (hp' : Pure2 r' g') (a : PE X x (tD f)) (b : PE X y (tD h)) (c : PE X z (tD k))
    (hm : lastMarks [op, op'] [y, z] = false) : PE X (.Compare x [op, op'] [y, z] pos) (tD (xChain g g' f h k)) := (pe_chain ho ho' a b c hm).imp fun _ _ _ q => chain_step hp hp' q
theorem dt_chain {op op' : CmpOp} {z : Expr} {r r' : R2} {g g' : PyData → PyData → Option PyData} (ho : OpR X (compareOp op) r) (ho' : OpR X (compareOp op') r') (hp : Pure2 r g) (hp' : Pure2 r' g') (a : PE X x (tD f)) (b : PE X y (tD h)) (c : PE X z (tD k))
    (hm : lastMarks [op, op'] [y, z] = false) : PT X (.Compare x [op, op'] [y, z] pos) (tDT (tBool (xChain g g' f h k))) := (pt_chain ho ho' a b c hm).imp fun _ _ _ q => chain_step hp hp' (tBool_step q)
end
end DL
namespace DL
open PySem PySem.Spec PyProof.Rows L2

/-! ### storing -/
section
variable {P P' : Addr → Prop} {α α' : List Addr} {e e' : DE} {w w' : Wd} {σ σ' : L2.St} {H H' : Hp}
theorem set_get {A : Type} {l : List (Option A)} {i j : Nat} {x y : A} (h : (l.set i (some x))[j]? = some (some y)) : (i = j ∧ x = y) ∨ (i ≠ j ∧ l[j]? = some (some y)) := by
  by_cases hij : i = j
  · subst hij
    by_cases hl : i < l.length
    · rw [List.getElem?_set_self hl] at h
      cases h
      exact .inl ⟨rfl, rfl⟩
    · rw [List.getElem?_eq_none (by simpa using hl)] at h
      cases h
  · rw [List.getElem?_set_ne hij] at h
    exact .inr ⟨hij, h⟩
theorem SvIs.less {M M' : Addr → Prop} {v : V} {x : SV} (h : SvIs M α H v x) (m : ∀ b, M' b → M b) : SvIs M' α H v x := by
  cases x with
  | v d => exact Dv.less (show Dv M H v d from h) m
  | own ds => obtain ⟨b, xs, e1, e2, e3, e4⟩ := h; exact ⟨b, xs, e1, e2, e3.less m, e4⟩
  | obj n => exact h
  | scr K ns => exact ScrIs.up (show ScrIs M H v K ns from h) (fun _ _ q _ => q) fun b z => .inl (m b z)
theorem ObIs.less {M M' : Addr → Prop} {a : Addr} {o : WO} (h : ObIs M H a o) (m : ∀ b, M' b → M b) : ObIs M' H a o := h.up (fun _ q => q) (fun _ _ q _ => q) fun b z => .inl (m b z)
/-- a name takes data, or a shared thing -/
theorem own_put {i : Nat} {x : SV} {v : V} (hx : ∀ ds, x ≠ .own ds) {b : Addr} (o : OwnAt (e.set i (some x)) (σ.set i (some v)) b) : OwnAt e σ b := by
  obtain ⟨j, ds, h1, h2⟩ := o
  rcases set_get h1 with ⟨_, q⟩ | ⟨hn, q⟩
  · exact absurd q (hx ds)
  · rw [List.getElem?_set_ne hn] at h2
    exact ⟨j, ds, q, h2⟩
theorem own_put_iff {i : Nat} {x : SV} {v : V} (hx : ∀ ds, x ≠ .own ds) (hi : ∀ ds, e[i]? ≠ some (some (.own ds))) (b : Addr) : OwnAt (e.set i (some x)) (σ.set i (some v)) b ↔ OwnAt e σ b := by
  refine ⟨own_put hx, fun ⟨j, ds, h1, h2⟩ => ⟨j, ds, ?_, ?_⟩⟩
  · rw [List.getElem?_set_ne (fun q => hi ds (by rw [q]; exact h1))]; exact h1
  · rw [List.getElem?_set_ne (fun q => hi ds (by rw [q]; exact h1))]; exact h2
theorem Msk.le (h : ∀ b, OwnAt e' σ' b → OwnAt e σ b) {b : Addr} (m : Msk P α e' σ' b) : Msk P α e σ b := by
  rcases m with m | m | m
  · exact .inl m
  · exact .inr (.inl m)
  · exact .inr (.inr (h b m))
theorem Rel.put (R : Rel P α e w σ H) {i : Nat} {x : SV} {v : V} (hx : ∀ ds, x ≠ .own ds) (hv : SvIs (Msk P α e σ) α H v x) : Rel P α (e.set i (some x)) w (σ.set i (some v)) H where
  ln := by rw [List.length_set, List.length_set]; exact R.ln
  nd := R.nd
  pa := R.pa
  pt := R.pt
  al := R.al
  ob := fun n o a h1 h2 => (R.ob n o a h1 h2).less fun b => Msk.le fun b => own_put hx
  sl := fun j y h => by
    rcases set_get h with ⟨rfl, rfl⟩ | ⟨hn, q⟩
    · refine ⟨v, ?_, hv.less fun b => Msk.le fun b => own_put hx⟩
      have hl : i < e.length := by
        have := (List.getElem?_eq_some_iff.mp h).1
        simpa using this
      rw [List.getElem?_set_self (by rw [← R.ln]; exact hl)]
    · obtain ⟨u, h1, h2⟩ := R.sl j y q
      exact ⟨u, by rw [List.getElem?_set_ne hn]; exact h1, h2.less fun b => Msk.le fun b => own_put hx⟩
  oa := fun j ds b h1 h2 => by
    rcases set_get h1 with ⟨_, q⟩ | ⟨hn, q⟩
    · exact absurd q (hx ds)
    · rw [List.getElem?_set_ne hn] at h2
      exact R.oa j ds b q h2
  od := fun j k ds es b h1 h2 h3 h4 => by
    rcases set_get h1 with ⟨_, q⟩ | ⟨hn, q⟩
    · exact absurd q (hx ds)
    · rcases set_get h2 with ⟨_, q'⟩ | ⟨hn', q'⟩
      · exact absurd q' (hx es)
      · rw [List.getElem?_set_ne hn] at h3
        rw [List.getElem?_set_ne hn'] at h4
        exact R.od j k ds es b q q' h3 h4
/-- fewer protected -/
theorem Rel.lessP (R : Rel P α e w σ H) (hp : ∀ b, P' b → P b) : Rel P' α e w σ H where
  ln := R.ln
  nd := R.nd
  pa := fun b hb q => R.pa b hb (hp b q)
  pt := fun b q => R.pt b (hp b q)
  al := R.al
  ob := fun n o a h1 h2 => (R.ob n o a h1 h2).less fun b m => m.elim (fun q => .inl (hp b q)) .inr
  sl := fun i x h => let ⟨v, h1, h2⟩ := R.sl i x h; ⟨v, h1, h2.less fun b m => m.elim (fun q => .inl (hp b q)) .inr⟩
  oa := fun i ds b h1 h2 => ⟨(R.oa i ds b h1 h2).1, fun q => (R.oa i ds b h1 h2).2 (hp b q)⟩
  od := R.od
/-- a new thing is laid and protected -/
theorem Rel.guard (R : Rel P α e w σ H) {p : Addr} {u : HO} (hp : H p = none) (hu : Mut (some u)) : Rel (fun b => P b ∨ b = p) α e w σ (upd H p u) := by
  have sm : Same H (upd H p u) := same_upd hp
  have up : ∀ b, Msk (fun b => P b ∨ b = p) α e σ b → Msk P α e σ b ∨ H b = none := fun b m => by
    rcases m with (m | m) | m | m
    · exact .inl (.inl m)
    · exact .inr (by rw [m]; exact hp)
    · exact .inl (.inr (.inl m))
    · exact .inl (.inr (.inr m))
  have R1 := R.same sm
  refine ⟨R.ln, R.nd, fun b hb q => ?_, fun b q => ?_, R.al, fun n o a h1 h2 => (R.ob n o a h1 h2).up (fun u q => sm _ u q) (fun b o q _ => sm b o q) up, fun i x h => ?_, fun i ds b h1 h2 => ⟨(R.oa i ds b h1 h2).1, fun q => ?_⟩, R.od⟩
  · rcases q with q | q
    · exact R.pa b hb q
    · have := R.known (.inr (.inl hb))
      rw [q] at this
      exact this hp
  · rcases q with q | q
    · exact R1.pt b q
    · rw [q, upd_same]; exact hu
  · obtain ⟨v, h1, h2⟩ := R.sl i x h
    refine ⟨v, h1, ?_⟩
    cases x with
    | v d => exact Dv.up (show Dv _ H v d from h2) (fun b o q _ => sm b o q) up
    | own ds => obtain ⟨b, xs, e1, e2, e3, e4⟩ := h2; exact ⟨b, xs, e1, sm _ _ e2, e3.up (fun b o q _ => sm b o q) up, e4⟩
    | obj n => exact h2
    | scr K ns => exact ScrIs.up (show ScrIs _ H v K ns from h2) (fun b o q _ => sm b o q) up
  · rcases q with q | q
    · exact (R.oa i ds b h1 h2).2 q
    · have := R.known (P := P) (.inr (.inr ⟨i, ds, h1, h2⟩) : Msk P α e σ b)
      rw [q] at this
      exact this hp
/-- what is protected may change -/
theorem Rel.turn (R : Rel (fun b => P b ∨ b = p) α e w σ H) {u : HO} (hu : Mut (some u)) : Rel (fun b => P b ∨ b = p) α e w σ (upd H p u) := by
  have nm : ∀ b o, H b = some o → ¬ Msk (fun b => P b ∨ b = p) α e σ b → (upd H p u) b = some o := fun b o q n => by
    rw [upd_ne (fun z => n (.inl (.inr z)))]
    exact q
  have ap : ∀ n a, α[n]? = some a → a ≠ p := fun n a h z => R.pa a (List.mem_of_getElem? h) (.inr z)
  refine ⟨R.ln, R.nd, R.pa, fun b q => ?_, R.al, fun n o a h1 h2 => (R.ob n o a h1 h2).up (fun u q => by rw [upd_ne (ap n a h2)]; exact q) nm fun b m => .inl m, fun i x h => ?_, R.oa, R.od⟩
  · by_cases hb : b = p
    · rw [hb, upd_same]; exact hu
    · rw [upd_ne hb]; exact R.pt b q
  · obtain ⟨v, h1, h2⟩ := R.sl i x h
    refine ⟨v, h1, ?_⟩
    cases x with
    | v d => exact Dv.up (show Dv _ H v d from h2) nm fun b m => .inl m
    | own ds =>
      obtain ⟨b, xs, e1, e2, e3, e4⟩ := h2
      have hb : b ≠ p := fun z => (R.oa i ds b h (by rw [h1, e1])).2 (.inr z)
      exact ⟨b, xs, e1, by rw [upd_ne hb]; exact e2, e3.up nm fun b m => .inl m, e4⟩
    | obj n => exact h2
    | scr K ns => exact ScrIs.up (show ScrIs _ H v K ns from h2) nm fun b m => .inl m
/-- a new list becomes a name's own -/
theorem Rel.own {p : Addr} {xs : List V} {ds : List PyData} {i : Nat} (R : Rel (fun b => P b ∨ b = p) α e w σ H) (hp : H p = some (.lst xs)) (dv : DvA (Msk (fun b => P b ∨ b = p) α e σ) H xs ds) (hl : ds.length ≤ LIM) (nP : ¬ P p) :
    Rel P α (e.set i (some (.own ds))) w (σ.set i (some (.ref p))) H := by
  have le : ∀ b, Msk P α (e.set i (some (.own ds))) (σ.set i (some (.ref p))) b → Msk (fun b => P b ∨ b = p) α e σ b := fun b m => by
    rcases m with m | m | ⟨j, es, h1, h2⟩
    · exact .inl (.inl m)
    · exact .inr (.inl m)
    · rcases set_get h1 with ⟨hj, _⟩ | ⟨hn, q⟩
      · subst hj
        rcases set_get h2 with ⟨_, q⟩ | ⟨hn, _⟩
        · cases q; exact .inl (.inr rfl)
        · exact absurd rfl hn
      · rw [List.getElem?_set_ne hn] at h2
        exact .inr (.inr ⟨j, es, q, h2⟩)
  have other : ∀ j es b, e[j]? = some (some (SV.own es)) → σ[j]? = some (some (V.ref b)) → b ≠ p := fun j es b h1 h2 z => (R.oa j es b h1 h2).2 (.inr z)
  refine ⟨by rw [List.length_set, List.length_set]; exact R.ln, R.nd, fun b hb q => R.pa b hb (.inl q), fun b q => R.pt b (.inl q), R.al, fun n o a h1 h2 => (R.ob n o a h1 h2).less le, fun j y h => ?_, fun j es b h1 h2 => ?_, fun j k es fs b h1 h2 h3 h4 => ?_⟩
  · rcases set_get h with ⟨rfl, rfl⟩ | ⟨hn, q⟩
    · have hl2 : i < e.length := by
        have := (List.getElem?_eq_some_iff.mp h).1
        simpa using this
      exact ⟨.ref p, by rw [List.getElem?_set_self (by rw [← R.ln]; exact hl2)], p, xs, rfl, hp, dv.less le, hl⟩
    · obtain ⟨u, h1, h2⟩ := R.sl j y q
      exact ⟨u, by rw [List.getElem?_set_ne hn]; exact h1, h2.less le⟩
  · rcases set_get h1 with ⟨hj, _⟩ | ⟨hn, q⟩
    · subst hj
      rcases set_get h2 with ⟨_, q⟩ | ⟨hn, _⟩
      · cases q; exact ⟨fun hb => R.pa p hb (.inr rfl), nP⟩
      · exact absurd rfl hn
    · rw [List.getElem?_set_ne hn] at h2
      exact ⟨(R.oa j es b q h2).1, fun z => (R.oa j es b q h2).2 (.inl z)⟩
  · rcases set_get h1 with ⟨hj, _⟩ | ⟨hn, q⟩
    · subst hj
      rcases set_get h3 with ⟨_, q⟩ | ⟨hn, _⟩
      · cases q
        rcases set_get h2 with ⟨hk, _⟩ | ⟨hn2, q2⟩
        · exact hk
        · rw [List.getElem?_set_ne hn2] at h4
          exact absurd rfl (other k fs p q2 h4)
      · exact absurd rfl hn
    · rw [List.getElem?_set_ne hn] at h3
      rcases set_get h2 with ⟨hk, _⟩ | ⟨hn2, q2⟩
      · subst hk
        rcases set_get h4 with ⟨_, q4⟩ | ⟨hn4, _⟩
        · cases q4
          exact absurd rfl (other j es p q h3)
        · exact absurd rfl hn4
      · rw [List.getElem?_set_ne hn2] at h4
        exact R.od j k es fs b q q2 h3 h4
/-- no names at all: what a callee sees, what a caller gets back -/
theorem Rel.bare (R : Rel P α e w σ H) : Rel P α [] w [] H where
  ln := rfl
  nd := R.nd
  pa := R.pa
  pt := R.pt
  al := R.al
  ob := fun n o a h1 h2 => (R.ob n o a h1 h2).less fun b m => by
    rcases m with m | m | ⟨_, _, h, _⟩
    · exact .inl m
    · exact .inr (.inl m)
    · simp at h
  sl := fun i x h => by simp at h
  oa := fun i ds b h => by simp at h
  od := fun i j ds es b h => by simp at h
end

/-! ### targets -/
abbrev G1 := PyData → DE → Option DE
structure GD (t : TG) (g : G1) (vs : List Nat) : Prop where
  run : ∀ (P : Addr → Prop) (α : List Addr) (e : DE) (w : Wd) (σ : L2.St) (H : Hp) (v : V) (d : PyData) (e' : DE) (Q : L2.St → Hp → Prop), Rel P α e w σ H → Dv (Msk P α e σ) H v d → g d e = some e' →
    (∀ σ', Rel P α e' w σ' H → (∀ b, OwnAt e' σ' b ↔ OwnAt e σ b) → (∀ j, j ∉ vs → σ'[j]? = σ[j]?) → σ'.length = σ.length → Q σ' H) → t v σ H Q
def isOwn : Option (Option SV) → Bool
  | some (some (.own _)) => true
  | _ => false
def gN (i : Nat) : G1 := fun d e => if isOwn e[i]? then none else some (e.set i (some (.v d)))
theorem gd_name {i : Nat} : GD (gName i) (gN i) [i] := ⟨fun P α e w σ H v d e' Q R hv hg k => by
  unfold gN at hg
  by_cases ho : isOwn e[i]? = true
  · rw [if_pos ho] at hg; cases hg
  · rw [if_neg ho] at hg
    cases hg
    have hi : ∀ ds, e[i]? ≠ some (some (.own ds)) := fun ds q => ho (by rw [q]; rfl)
    refine k _ (R.put (fun ds q => nomatch q) hv) (own_put_iff (fun ds q => nomatch q) hi) (fun j hj => ?_) (List.length_set ..)
    rw [List.getElem?_set_ne (fun q => hj (by rw [q]; exact List.mem_singleton.mpr rfl))]⟩
/-- several targets -/
abbrev GS1 := List PyData → DE → Option DE
structure GDs (t : TGs) (g : GS1) (vs : List Nat) : Prop where
  run : ∀ (P : Addr → Prop) (α : List Addr) (e : DE) (w : Wd) (σ : L2.St) (H : Hp) (v : List V) (d : List PyData) (e' : DE) (Q : L2.St → Hp → Prop), Rel P α e w σ H → DvA (Msk P α e σ) H v d → g d e = some e' →
    (∀ σ', Rel P α e' w σ' H → (∀ b, OwnAt e' σ' b ↔ OwnAt e σ b) → (∀ j, j ∉ vs → σ'[j]? = σ[j]?) → σ'.length = σ.length → Q σ' H) → t v σ H Q
def gE : GS1 := fun ds e => match ds with
  | [] => some e
  | _ => none
def gC (g : G1) (gs : GS1) : GS1 := fun ds e => match ds with
  | [] => none
  | d :: r => match g d e with
    | some e1 => gs r e1
    | none => none
theorem gds_nil : GDs gNil gE [] := ⟨fun P α e w σ H v d e' Q R hv hg k => by
  cases hv with
  | nil =>
    cases hg
    exact ⟨rfl, k σ R (fun b => Iff.rfl) (fun j _ => rfl) rfl⟩
  | cons _ _ => cases hg⟩
theorem gds_cons {t : TG} {ts : TGs} {g : G1} {gs : GS1} {vs ws : List Nat} (h1 : GD t g vs) (h2 : GDs ts gs ws) : GDs (gCons t ts) (gC g gs) (vs ++ ws) := ⟨fun P α e w σ H v d e' Q R hv hg k => by
  cases hv with
  | nil => cases hg
  | @cons v0 vr d0 dr a b =>
    unfold gC at hg
    cases q : g d0 e with
    | none => simp [q] at hg
    | some e1 =>
      simp only [q] at hg
      refine ⟨v0, vr, rfl, h1.run P α e w σ H v0 d0 e1 _ R a q fun σ1 R1 ow1 kp1 l1 => ?_⟩
      have b' : DvA (Msk P α e1 σ1) H vr dr := b.less fun c m => Msk.le (fun c z => (ow1 c).mp z) m
      refine h2.run P α e1 w σ1 H vr dr e' _ R1 b' hg fun σ2 R2 ow2 kp2 l2 => ?_
      exact k σ2 R2 (fun c => (ow2 c).trans (ow1 c)) (fun j hj => (kp2 j fun z => hj (List.mem_append_right _ z)).trans (kp1 j fun z => hj (List.mem_append_left _ z))) (l2.trans l1)⟩
def gT (gs : GS1) : G1 := fun d e => match d with
  | .tuple ds => gs ds e
  | _ => none
/-- n: how many names stand there -/
structure GLen (g : GS1) (n : Nat) : Prop where
  ln : ∀ ds e e', g ds e = some e' → ds.length = n
theorem gLen_nil : GLen gE 0 := ⟨fun ds e e' h => by cases ds with | nil => rfl | cons => cases h⟩
theorem gLen_cons {g : G1} {gs : GS1} {n : Nat} (h : GLen gs n) : GLen (gC g gs) (n + 1) := ⟨fun ds e e' q => by
  cases ds with
  | nil => cases q
  | cons d r =>
    unfold gC at q
    cases z : g d e with
    | none => simp [z] at q
    | some e1 =>
      simp only [z] at q
      simp [h.ln r e1 e' q]⟩
theorem gd_tup {K : PySem.W.Frag} {ts : TGs} {gs : GS1} {vs : List Nat} {n : Nat} (h : GDs ts gs vs) (hl : GLen gs n) : GD (gTup K n ts) (gT gs) vs := ⟨fun P α e w σ H v d e' Q R hv hg k => by
  cases d with
  | tuple ds =>
    cases hv with
    | atm q => cases q
    | @tup a xs _ nm r0 l q =>
      have r : Rd _ a (.tup xs) := .inl r0
      exact ⟨a, xs, rfl, .inl r, by rw [q.length]; exact hl.ln ds e e' hg, h.run P α e w σ H xs ds e' Q R q hg k⟩
  | none => cases hg
  | bool _ => cases hg
  | int _ => cases hg
  | str _ => cases hg
  | list _ => cases hg
  | dict _ => cases hg⟩
end DL
namespace DL
open PySem PySem.Spec PyProof.Rows L2

/-! ### what a for walks -/
abbrev I1 := DE → Wd → Option (List PyData × Wd)
def Src (M1 : Addr → Prop) (S : Addr → Prop) (H1 : Hp) (ds : List PyData) (J : It) : Prop :=
  ∃ (G : Hp → Prop) (Y : Nat → Hp → V → Hp → Prop), Walk J ds.length G Y ∧ (∀ H2, (∀ b o, S b → H1 b = some o → H2 b = some o) → G H2) ∧
    ∀ (i : Nat) (d : PyData) (H2 : Hp) (x : V) (H3 : Hp) (M2 : Addr → Prop), ds[i]? = some d → Y i H2 x H3 → (∀ b, M2 b → Mut (H2 b)) → (∀ v d', Dv M1 H1 v d' → Dv M2 H2 v d') → Same H2 H3 ∧ Dv M2 H3 x d
def tI (f : I1) : TI := fun σ H R => ∃ (P : Addr → Prop) (α : List Addr) (e : DE) (w : Wd) (ds : List PyData) (w' : Wd), Rel P α e w σ H ∧ f e w = some (ds, w') ∧
  ∀ J S H' α', UpE α H α' H' → Rel P α' e w' σ H' → (∀ b, S b → ¬ Msk P α' e σ b) → ds.length ≤ LIM → Src (Msk P α' e σ) S H' ds J → R J H'
def tIo (f : I1) : TI := fun σ H R => ∃ (P : Addr → Prop) (α : List Addr) (e : DE) (w : Wd) (ds : List PyData) (w' : Wd), Rel P α e w σ H ∧ f e w = some (ds, w') ∧
  ∀ J S H' α', UpE α H α' H' → Rel P α' e w' σ H' → (∀ b, S b → b ∉ α') → ds.length ≤ LIM → Src (Msk P α' e σ) S H' ds J → R J H'
/-- a source for loops; one for comprehensions (it may be the def's own list) -/
structure SrcOf (wi : TI) (f : I1) : Prop where
  run : ∀ σ H R, tI f σ H R → wi σ H R
structure SrcOw (wi : TI) (f : I1) : Prop where
  run : ∀ σ H R, tIo f σ H R → wi σ H R
theorem SrcOf.ow {wi : TI} {f : I1} (h : SrcOf wi f) : SrcOw wi f := ⟨fun σ H R ⟨P, α, e, w, ds, w', r, hf, k⟩ => h.run σ H R ⟨P, α, e, w, ds, w', r, hf, fun J S H' α' u r' hS => k J S H' α' u r' fun b hb ha => hS b hb (.inr (.inl ha))⟩⟩
section
variable {K : PySem.W.Frag} {M1 S : Addr → Prop} {H1 : Hp} {a b : Addr} {xs ys : List V} {ds es : List PyData}
theorem src_list (h : H1 a = some (.lst xs) ∨ ∃ o, H1 a = some (.frz o (.lst xs))) (dv : DvA M1 H1 xs ds) : Src M1 (fun b => b = a) H1 ds (Itl K a) := by
  refine ⟨fun H => SqL K H a xs, YAt xs, by rw [← dv.length]; exact walk_list, fun H2 q => .inl (rd_mono h fun o e => q a o rfl e), fun i d H2 x H3 M2 hd y hm tr => ?_⟩
  obtain ⟨rfl, hx⟩ := y
  obtain ⟨v, h1, h2⟩ := dv.get hd
  rw [hx] at h1
  cases h1
  exact ⟨fun _ _ z => z, tr _ _ h2⟩
theorem src_tup (h : Rd H1 a (.tup xs)) (dv : DvA M1 H1 xs ds) : Src M1 (fun b => b = a) H1 ds (Itt K a) := by
  refine ⟨fun H => SqT K H a xs, YAt xs, by rw [← dv.length]; exact walk_tup, fun H2 q => .inl (rd_mono h fun o e => q a o rfl e), fun i d H2 x H3 M2 hd y hm tr => ?_⟩
  obtain ⟨rfl, hx⟩ := y
  obtain ⟨v, h1, h2⟩ := dv.get hd
  rw [hx] at h1
  cases h1
  exact ⟨fun _ _ z => z, tr _ _ h2⟩
def rangeL (lo : Int) (n : Nat) : List PyData := (List.range n).map fun (i : Nat) => .int (lo + (i : Int))
theorem rangeL_len (lo : Int) (n : Nat) : (rangeL lo n).length = n := by simp [rangeL]
theorem src_range {lo : Int} {n : Nat} : Src M1 (fun _ => False) H1 (rangeL lo n) (Itr lo n) := by
  refine ⟨fun _ => True, YFn fun i => .int (lo + i), by rw [rangeL_len]; exact walk_range, fun H2 q => trivial, fun i d H2 x H3 M2 hd y hm tr => ?_⟩
  obtain ⟨rfl, rfl⟩ := y
  unfold rangeL at hd
  rw [List.getElem?_map] at hd
  cases hr : (List.range n)[i]? with
  | none => simp [hr] at hd
  | some j =>
    have hj : j = i := by
      have := (List.getElem?_eq_some_iff.mp hr)
      obtain ⟨h1, h2⟩ := this
      simpa using h2.symm
    rw [hr] at hd
    cases hd
    subst hj
    exact ⟨fun _ _ z => z, .atm (.int _)⟩
def enumL (k : Nat) : List PyData → List PyData
  | [] => []
  | d :: ds => .tuple [.int (k : Int), d] :: enumL (k + 1) ds
theorem enumL_len : ∀ (k : Nat) (ds : List PyData), (enumL k ds).length = ds.length
  | _, [] => rfl
  | k, d :: ds => congrArg (· + 1) (enumL_len (k + 1) ds)
theorem enumL_get : ∀ (k i : Nat) (ds : List PyData) (d : PyData), (enumL k ds)[i]? = some d → ∃ z, ds[i]? = some z ∧ d = .tuple [.int ((k + i : Nat) : Int), z]
  | _, _, [], _, h => by simp [enumL] at h
  | k, 0, z :: ds, d, h => by
    simp [enumL] at h
    exact ⟨z, rfl, h.symm⟩
  | k, i + 1, z :: ds, d, h => by
    simp only [enumL, List.getElem?_cons_succ] at h
    obtain ⟨z', h1, h2⟩ := enumL_get (k + 1) i ds d h
    exact ⟨z', by simpa using h1, by rw [h2, show k + 1 + i = k + (i + 1) by omega]⟩
theorem pair_new {M2 : Addr → Prop} {H2 : Hp} {T : Addr} {x y : V} {d d' : PyData} (hT : H2 T = none) (hm : ∀ b, M2 b → Mut (H2 b)) (h1 : Dv M2 H2 x d) (h2 : Dv M2 H2 y d') : Same H2 (upd H2 T (.tup [x, y])) ∧ Dv M2 (upd H2 T (.tup [x, y])) (.ref T) (.tuple [d, d']) := by
  have sm : Same H2 (upd H2 T (.tup [x, y])) := same_upd hT
  exact ⟨sm, .tup (fresh_mut hm hT) upd_same (by show 2 ≤ 1000000; decide) (.cons (h1.same sm) (.cons (h2.same sm) .nil))⟩
theorem src_enum (h : H1 a = some (.lst xs) ∨ ∃ o, H1 a = some (.frz o (.lst xs))) (dv : DvA M1 H1 xs ds) : Src M1 (fun b => b = a) H1 (enumL 0 ds) (Ite K a) := by
  refine ⟨fun H => SqL K H a xs, YPair (fun i => some (.int (i : Nat))) (fun i => xs[i]?), by rw [enumL_len, ← dv.length]; exact walk_enum, fun H2 q => .inl (rd_mono h fun o e => q a o rfl e), fun i d H2 x H3 M2 hd y hm tr => ?_⟩
  obtain ⟨T, x1, y1, rfl, hT, rfl, q1, q2⟩ := y
  obtain ⟨z, hz, rfl⟩ := enumL_get 0 i ds d hd
  obtain ⟨v, h1, h2⟩ := dv.get hz
  simp only at q1 q2
  rw [h1] at q2
  cases q1
  cases q2
  rw [Nat.zero_add]
  exact pair_new hT hm (.atm (.int _)) (tr _ _ h2)
def zipL : List PyData → List PyData → List PyData
  | d :: ds, c :: cs => .tuple [d, c] :: zipL ds cs
  | _, _ => []
theorem zipL_len : ∀ (ds cs : List PyData), (zipL ds cs).length = min ds.length cs.length
  | [], cs => by simp [zipL]
  | _ :: _, [] => by simp [zipL]
  | d :: ds, c :: cs => by simp [zipL, zipL_len ds cs, Nat.succ_min_succ]
theorem zipL_get : ∀ (i : Nat) (ds cs : List PyData) (d : PyData), (zipL ds cs)[i]? = some d → ∃ x y, ds[i]? = some x ∧ cs[i]? = some y ∧ d = .tuple [x, y]
  | _, [], _, _, h => by simp [zipL] at h
  | _, _ :: _, [], _, h => by simp [zipL] at h
  | 0, a :: ds, c :: cs, d, h => by
    simp [zipL] at h
    exact ⟨a, c, rfl, rfl, h.symm⟩
  | i + 1, a :: ds, c :: cs, d, h => by
    simp only [zipL, List.getElem?_cons_succ] at h ⊢
    exact zipL_get i ds cs d h
theorem walk_zipT {n : Nat} (hn : n = min xs.length ys.length) : Walk (RZ.ItzT K a b) n (fun H => SqT K H a xs ∧ SqT K H b ys) (YPair (fun i => xs[i]?) (fun i => ys[i]?)) := by
  subst hn
  constructor
  · intro i _ hi q
    have b1 : i < xs.length := Nat.lt_of_lt_of_le hi (Nat.min_le_left ..)
    have b2 : i < ys.length := Nat.lt_of_lt_of_le hi (Nat.min_le_right ..)
    exact ⟨xs, ys, _, _, q.1, q.2, List.getElem?_eq_getElem b1, List.getElem?_eq_getElem b2⟩
  · exact fun _ q => ⟨xs, ys, q.1, q.2, by omega⟩
  · rintro i H v H' _ q ⟨T, x, z, e1, e2, e3, e4, e5⟩
    exact ⟨T, x, z, e1, e2, e3, e4 _ q.1, e5 _ q.2⟩
theorem src_zip {J : It} {G : Hp → Prop} (wk : Walk J (min xs.length ys.length) G (YPair (fun i => xs[i]?) (fun i => ys[i]?))) (hG : ∀ H2, (∀ c o, c = a ∨ c = b → H1 c = some o → H2 c = some o) → G H2) (dv : DvA M1 H1 xs ds) (dw : DvA M1 H1 ys es) :
    Src M1 (fun c => c = a ∨ c = b) H1 (zipL ds es) J := by
  refine ⟨G, _, by rw [zipL_len, ← dv.length, ← dw.length]; exact wk, hG, fun i d H2 x H3 M2 hd y hm tr => ?_⟩
  obtain ⟨T, x1, y1, rfl, hT, rfl, q1, q2⟩ := y
  obtain ⟨z, z', hz, hz', rfl⟩ := zipL_get i ds es d hd
  obtain ⟨v, h1, h2⟩ := dv.get hz
  obtain ⟨v', h1', h2'⟩ := dw.get hz'
  simp only at q1 q2
  rw [h1] at q1
  rw [h1'] at q2
  cases q1
  cases q2
  exact pair_new hT hm (tr _ _ h2) (tr _ _ h2')
end

section
variable {X : Cx} {l l2 tg : Expr} {es : List Expr} {pos p : Pos} {f h : X1} {fs : A1}
theorem PI.or {tg l : Expr} {w1 w2 : TI} (h1 : PI X tg l w1) (h2 : PI X tg l w2) : PI X tg l (fun σ H R => w1 σ H R ∨ w2 σ H R) := by
  refine ⟨fun pins s σ H R I q => ?_⟩
  rcases q with q | q
  · exact h1.run pins s σ H R I q
  · exact h2.run pins s σ H R I q
/-- a list or a tuple -/
def iSeq (f : X1) : I1 := fun e w => match f e w with
  | some (.v (.list ds), w1) => some (ds, w1)
  | some (.v (.tuple ds), w1) => some (ds, w1)
  | _ => none
theorem pi_seq (a : PE X l (tD f)) : PI X tg l (fun σ H R => iList X.K (tD f) σ H R ∨ iTup X.K (tD f) σ H R) := PI.or (pi_list a) (pi_tup a)
theorem so_seq {K : PySem.W.Frag} : SrcOf (fun σ H R => iList K (tD f) σ H R ∨ iTup K (tD f) σ H R) (iSeq f) := ⟨fun σ H R ⟨P, α, e, w, ds, w', r, hf, k⟩ => by
  unfold iSeq at hf
  cases h1 : f e w with
  | none => simp [h1] at hf
  | some q =>
    obtain ⟨ra, w1⟩ := q
    simp only [h1] at hf
    match ra, h1, hf with
    | .v (.list ds'), h1, hf =>
      cases hf
      refine .inl ⟨P, α, e, w, _, _, r, h1, fun v H1 α1 u1 R1 i1 => ?_⟩
      cases (show Dv _ _ v (.list ds) from i1) with
      | atm q => cases q
      | @lst a xs _ nm rd lm q => exact ⟨a, rfl, ⟨xs, .inl rd⟩, k _ (fun b => b = a) H1 α1 u1 R1 (fun b hb => by rw [hb]; exact nm) lm (src_list rd q)⟩
    | .v (.tuple ds'), h1, hf =>
      cases hf
      refine .inr ⟨P, α, e, w, _, _, r, h1, fun v H1 α1 u1 R1 i1 => ?_⟩
      cases (show Dv _ _ v (.tuple ds) from i1) with
      | atm q => cases q
      | @tup a xs _ nm rd0 lm q => have rd : Rd _ a (.tup xs) := .inl rd0; exact ⟨a, rfl, ⟨xs, .inl rd⟩, k _ (fun b => b = a) H1 α1 u1 R1 (fun b hb => by rw [hb]; exact nm) lm (src_tup rd q)⟩⟩
/-- also the def's own list (in a comprehension) -/
def iSeqO (f : X1) : I1 := fun e w => match f e w with
  | some (.v (.list ds), w1) => some (ds, w1)
  | some (.v (.tuple ds), w1) => some (ds, w1)
  | some (.own i, w1) => match e[i]? with
    | some (some (.own ds)) => some (ds, w1)
    | _ => none
  | _ => none
theorem sw_seq {K : PySem.W.Frag} : SrcOw (fun σ H R => iList K (tD f) σ H R ∨ iTup K (tD f) σ H R) (iSeqO f) := ⟨fun σ H R ⟨P, α, e, w, ds, w', r, hf, k⟩ => by
  unfold iSeqO at hf
  cases h1 : f e w with
  | none => simp [h1] at hf
  | some q =>
    obtain ⟨ra, w1⟩ := q
    simp only [h1] at hf
    match ra, h1, hf with
    | .v (.list ds'), h1, hf =>
      cases hf
      refine .inl ⟨P, α, e, w, _, _, r, h1, fun v H1 α1 u1 R1 i1 => ?_⟩
      cases (show Dv _ _ v (.list ds) from i1) with
      | atm q => cases q
      | @lst a xs _ nm rd lm q => exact ⟨a, rfl, ⟨xs, .inl rd⟩, k _ (fun b => b = a) H1 α1 u1 R1 (fun b hb => by rw [hb]; exact fun z => nm (.inr (.inl z))) lm (src_list rd q)⟩
    | .v (.tuple ds'), h1, hf =>
      cases hf
      refine .inr ⟨P, α, e, w, _, _, r, h1, fun v H1 α1 u1 R1 i1 => ?_⟩
      cases (show Dv _ _ v (.tuple ds) from i1) with
      | atm q => cases q
      | @tup a xs _ nm rd0 lm q => have rd : Rd _ a (.tup xs) := .inl rd0; exact ⟨a, rfl, ⟨xs, .inl rd⟩, k _ (fun b => b = a) H1 α1 u1 R1 (fun b hb => by rw [hb]; exact fun z => nm (.inr (.inl z))) lm (src_tup rd q)⟩
    | .own i, h1, hf =>
      cases h2 : e[i]? with
      | none => simp [h2] at hf
      | some o =>
        match o, h2, hf with
        | some (.own ds'), h2, hf =>
          simp only [h2] at hf
          cases hf
          refine .inl ⟨P, α, e, w, _, _, r, h1, fun v H1 α1 u1 R1 i1 => ?_⟩
          obtain ⟨h3, ds2, h4⟩ := i1
          obtain ⟨v', h5, b, xs, rfl, h6, h7, h8⟩ := R1.sl i _ h2
          rw [h3] at h5
          cases h5
          exact ⟨b, rfl, ⟨xs, .inl (.inl h6)⟩, k _ (fun c => c = b) H1 α1 u1 R1 (fun c hc => by rw [hc]; exact (R1.oa i ds b h2 h3).1) h8 (src_list (.inl h6) h7)⟩
        | none, h2, hf => simp [h2] at hf
        | some (.v _), h2, hf => simp [h2] at hf
        | some (.obj _), h2, hf => simp [h2] at hf
        | some (.scr _ _), h2, hf => simp [h2] at hf⟩
def smallI (n : Int) : Bool := decide (-1000000 ≤ n) && decide (n ≤ 1000000)
theorem small_1 {n : Int} (h : smallI n = true) : -(2 ^ 62) ≤ n ∧ n < 2 ^ 62 := by
  unfold smallI at h
  simp only [Bool.and_eq_true, decide_eq_true_eq] at h
  omega
def oneInt (e : DE) (w : Wd) : List RS → Option Int
  | [.v (.int n)] => some n
  | _ => none
def iRange1 (f : X1) : I1 := fun e w => match f e w with
  | some (.v (.int n), w1) => if smallI n then some (rangeL 0 n.toNat, w1) else none
  | _ => none
theorem so_range1 : SrcOf (iRng1 (tDA (aCons f aNil))) (iRange1 f) := ⟨fun σ H R ⟨P, α, e, w, ds, w', r, hf, k⟩ => by
  unfold iRange1 at hf
  cases h1 : f e w with
  | none => simp [h1] at hf
  | some q =>
    obtain ⟨ra, w1⟩ := q
    simp only [h1] at hf
    match ra, h1, hf with
    | .v (.int n), h1, hf =>
      by_cases hn : smallI n = true
      · simp only [hn, if_true] at hf
        cases hf
        refine ⟨P, α, e, w, [.v (.int n)], w', r, by unfold aCons aNil; simp [h1], fun vs H1 α1 u1 R1 i1 => ?_⟩
        cases i1 with
        | cons a b =>
          cases b with
          | nil =>
            have := int_of (show Dv _ _ _ (.int n) from a)
            subst this
            refine ⟨n, rfl, (small_1 hn).1, (small_1 hn).2, k _ (fun _ => False) H1 α1 u1 R1 (fun _ z => z.elim) ?_ src_range⟩
            rw [rangeL_len]
            unfold smallI at hn
            simp only [Bool.and_eq_true, decide_eq_true_eq] at hn
            show n.toNat ≤ 1000000
            omega
      · simp [hn] at hf⟩
def iRange2 (f h : X1) : I1 := fun e w => match f e w with
  | some (.v (.int a), w1) => match h e w1 with
    | some (.v (.int b), w2) => if smallI a && smallI b && decide (b - a ≤ 1000000) then some (rangeL a (b - a).toNat, w2) else none
    | _ => none
  | _ => none
theorem so_range2 : SrcOf (iRng2 (tDA (aCons f (aCons h aNil)))) (iRange2 f h) := ⟨fun σ H R ⟨P, α, e, w, ds, w', r, hf, k⟩ => by
  unfold iRange2 at hf
  cases h1 : f e w with
  | none => simp [h1] at hf
  | some q =>
    obtain ⟨ra, w1⟩ := q
    simp only [h1] at hf
    match ra, h1, hf with
    | .v (.int a), h1, hf =>
      simp only at hf
      cases h2 : h e w1 with
      | none => simp [h2] at hf
      | some q =>
        obtain ⟨rb, w2⟩ := q
        simp only [h2] at hf
        match rb, h2, hf with
        | .v (.int b), h2, hf =>
          by_cases hn : (smallI a && smallI b && decide (b - a ≤ 1000000)) = true
          · simp only [hn, if_true] at hf
            cases hf
            simp only [Bool.and_eq_true, decide_eq_true_eq] at hn
            refine ⟨P, α, e, w, [.v (.int a), .v (.int b)], w', r, by unfold aCons aNil; simp [h1, h2], fun vs H1 α1 u1 R1 i1 => ?_⟩
            cases i1 with
            | cons x b1 =>
              cases b1 with
              | cons y b2 =>
                cases b2 with
                | nil =>
                  have e1 := int_of (show Dv _ _ _ (.int a) from x)
                  have e2 := int_of (show Dv _ _ _ (.int b) from y)
                  subst e1 e2
                  refine ⟨a, b, rfl, ⟨(small_1 hn.1.1).1, (small_1 hn.1.1).2, (small_1 hn.1.2).1, (small_1 hn.1.2).2⟩, k _ (fun _ => False) H1 α1 u1 R1 (fun _ z => z.elim) ?_ src_range⟩
                  rw [rangeL_len]
                  show (b - a).toNat ≤ 1000000
                  omega
          · simp [hn] at hf⟩
/-- enumerate of a list -/
def iEnumL (f : X1) : I1 := fun e w => match f e w with
  | some (.v (.list ds), w1) => some (enumL 0 ds, w1)
  | _ => none
theorem so_enum {K : PySem.W.Frag} : SrcOf (iEnum K (tDA (aCons f aNil))) (iEnumL f) := ⟨fun σ H R ⟨P, α, e, w, ds, w', r, hf, k⟩ => by
  unfold iEnumL at hf
  cases h1 : f e w with
  | none => simp [h1] at hf
  | some q =>
    obtain ⟨ra, w1⟩ := q
    simp only [h1] at hf
    match ra, h1, hf with
    | .v (.list ds'), h1, hf =>
      cases hf
      refine ⟨P, α, e, w, [.v (.list ds')], w', r, by unfold aCons aNil; simp [h1], fun vs H1 α1 u1 R1 i1 => ?_⟩
      cases i1 with
      | cons a b =>
        cases b with
        | nil =>
          cases (show Dv _ _ _ (.list ds') from a) with
          | atm q => cases q
          | @lst a0 xs _ nm rd lm q => exact ⟨a0, xs, rfl, .inl rd, k _ (fun b => b = a0) H1 α1 u1 R1 (fun b hb => by rw [hb]; exact nm) (by rw [enumL_len]; exact lm) (src_enum rd q)⟩⟩
/-- zip of two lists, two tuples -/
def iZipD (f h : X1) : I1 := fun e w => match f e w with
  | some (.v a, w1) => match h e w1 with
    | some (.v b, w2) => match a, b with
      | .list x, .list y => some (zipL x y, w2)
      | .tuple x, .tuple y => some (zipL x y, w2)
      | _, _ => none
    | _ => none
  | _ => none
theorem so_zip {K : PySem.W.Frag} : SrcOf (RZ.iZipA K (tDA (aCons f (aCons h aNil)))) (iZipD f h) := ⟨fun σ H R ⟨P, α, e, w, ds, w', r, hf, k⟩ => by
  unfold iZipD at hf
  cases h1 : f e w with
  | none => simp [h1] at hf
  | some q =>
    obtain ⟨ra, w1⟩ := q
    simp only [h1] at hf
    match ra, h1, hf with
    | .v a, h1, hf =>
      simp only at hf
      cases h2 : h e w1 with
      | none => simp [h2] at hf
      | some q =>
        obtain ⟨rb, w2⟩ := q
        simp only [h2] at hf
        match rb, h2, hf with
        | .v b, h2, hf =>
          simp only at hf
          refine ⟨P, α, e, w, [.v a, .v b], w2, r, by unfold aCons aNil; simp [h1, h2], fun vs H1 α1 u1 R1 i1 => ?_⟩
          cases i1 with
          | cons x b1 =>
            cases b1 with
            | cons y b2 =>
              cases b2 with
              | nil =>
                have x : Dv _ _ _ a := x
                have y : Dv _ _ _ b := y
                match a, b, x, y, hf with
                | .list ds1, .list ds2, x, y, hf =>
                  cases hf
                  cases x with
                  | atm q => cases q
                  | @lst a1 xs _ nm rd lm q =>
                    cases y with
                    | atm q => cases q
                    | @lst a2 ys _ nm2 rd2 lm2 q2 =>
                      exact ⟨a1, a2, xs, ys, rfl, .inl ⟨.inl rd, .inl rd2, k _ (fun c => c = a1 ∨ c = a2) H1 α1 u1 R1 (fun c hc => by rcases hc with rfl | rfl <;> assumption) (by rw [zipL_len]; exact Nat.le_trans (Nat.min_le_left _ _) lm) (src_zip (walk_zip rfl) (fun H2 z => ⟨.inl (rd_mono rd fun o e => z a1 o (.inl rfl) e), .inl (rd_mono rd2 fun o e => z a2 o (.inr rfl) e)⟩) q q2)⟩⟩
                | .tuple ds1, .tuple ds2, x, y, hf =>
                  cases hf
                  cases x with
                  | atm q => cases q
                  | @tup a1 xs _ nm rd0 lm q =>
                    have rd : Rd _ a1 (.tup xs) := .inl rd0
                    cases y with
                    | atm q => cases q
                    | @tup a2 ys _ nm2 rd02 lm2 q2 =>
                      have rd2 : Rd _ a2 (.tup ys) := .inl rd02
                      exact ⟨a1, a2, xs, ys, rfl, .inr ⟨.inl rd, .inl rd2, k _ (fun c => c = a1 ∨ c = a2) H1 α1 u1 R1 (fun c hc => by rcases hc with rfl | rfl <;> assumption) (by rw [zipL_len]; exact Nat.le_trans (Nat.min_le_left _ _) lm) (src_zip (walk_zipT rfl) (fun H2 z => ⟨.inl (rd_mono rd fun o e => z a1 o (.inl rfl) e), .inl (rd_mono rd2 fun o e => z a2 o (.inr rfl) e)⟩) q q2)⟩⟩⟩
end
end DL
namespace DL
open PySem PySem.Spec PyProof.Rows L2

/-! ### new lists -/
/-- f gives a new list: nobody else has it -/
def tF (f : X1) : TE := fun σ H Q => ∃ (P : Addr → Prop) (α : List Addr) (e : DE) (w : Wd) (ds : List PyData) (w' : Wd), Rel P α e w σ H ∧ f e w = some (.v (.list ds), w') ∧
  ∀ p xs H' α', UpE α H α' H' → H p = none → Rel (fun b => P b ∨ b = p) α' e w' σ H' → H' p = some (.lst xs) → DvA (Msk (fun b => P b ∨ b = p) α' e σ) H' xs ds → ds.length ≤ LIM → Q (.ref p) H'
theorem not_P {P : Addr → Prop} {α : List Addr} {e : DE} {w : Wd} {σ : L2.St} {H : Hp} (R : Rel P α e w σ H) {p : Addr} (h : H p = none) : ¬ Msk P α e σ p := fun m => R.known m h
theorem Msk.more {P : Addr → Prop} {α : List Addr} {e : DE} {σ : L2.St} {p b : Addr} (m : Msk P α e σ b) : Msk (fun b => P b ∨ b = p) α e σ b := m.elim (fun q => .inl (.inl q)) .inr
theorem tF_D {f : X1} (isl : ∀ e w r w', f e w = some (r, w') → ∃ ds, r = .v (.list ds)) {σ : L2.St} {H : Hp} {Q : VK} (q : tD f σ H Q) : tF f σ H Q := by
  obtain ⟨P, α, e, w, r, w', R, hf, k⟩ := q
  obtain ⟨ds, rfl⟩ := isl e w r w' hf
  refine ⟨P, α, e, w, ds, w', R, hf, fun p xs H' α' u hp R' hx dv hl => ?_⟩
  have np : ¬ Msk P α' e σ p := fun m => by
    rcases m with m | m | m
    · exact not_P R hp (.inl m)
    · exact R'.pa p m (.inr rfl)
    · exact not_P R hp (.inr (.inr m))
  exact k _ H' α' u (R'.lessP fun b q => .inl q) (.lst np (.inl hx) hl (dv.less fun b m => m.more))
structure IsLst (f : X1) : Prop where
  at' : ∀ e w r w', f e w = some (r, w') → ∃ ds, r = .v (.list ds)
section
variable {X : Cx} {x : Expr} {es : List Expr} {pos : Pos} {f : X1} {fs : A1}
theorem d_new (a : PE X x (tF f)) (h : IsLst f) : PE X x (tD f) := a.imp fun _ _ _ q => tF_D h.at' q
theorem isl_lst : IsLst (xLst fs) := ⟨fun e w r w' h => by
  unfold xLst at h
  cases h1 : fs e w with
  | none => simp [h1] at h
  | some p =>
    obtain ⟨rs, w1⟩ := p
    simp only [h1] at h
    cases h2 : dataOf rs with
    | none => simp [h2] at h
    | some ds =>
      simp only [h2] at h
      cases h
      exact ⟨_, rfl⟩⟩
theorem f_lst {n : Nat} (h : PA X es (tDA fs)) (hl : ALen fs n) (hn : n ≤ LIM := by decide) : PE X (.List es pos) (tF (xLst fs)) := (pe_lst h).imp fun σ H Q q => by
  obtain ⟨P, α, e, w, ds, w', R, hf, k⟩ := q
  unfold xLst at hf
  cases h1 : fs e w with
  | none => simp [h1] at hf
  | some p =>
    obtain ⟨rs, w1⟩ := p
    simp only [h1] at hf
    cases h2 : dataOf rs with
    | none => simp [h2] at hf
    | some ds =>
      simp only [h2] at hf
      cases hf
      refine ⟨P, α, e, w, rs, _, R, h1, fun vs H1 α1 u1 R1 i1 => ?_⟩
      have dv := data_of i1 h2
      have l1 : ds.length ≤ LIM := by rw [data_len h2, hl.ln _ _ _ _ h1]; exact hn
      refine ⟨by rw [dv.length]; exact lim_le l1, fun p hp => ?_⟩
      have sm : Same H1 (upd H1 p (.lst vs)) := same_upd hp
      refine k p vs _ α1 (u1.trans (.of_same sm)) ?_ (R1.guard hp trivial) upd_same (dv.up (fun b o q _ => sm b o q) fun b m => ?_) l1
      · cases q : H p with
        | none => rfl
        | some o =>
          have hb : p ∈ α → False := fun hb => by
            have := R1.known (.inr (.inl (by obtain ⟨β, rfl⟩ := u1.pre; exact List.mem_append_left _ hb)) : Msk P α1 e σ p)
            exact this hp
          have := u1.kp p o q hb
          rw [hp] at this
          cases this
      · rcases m with (m | m) | m
        · exact .inl (.inl m)
        · exact .inr (by rw [m]; exact hp)
        · exact .inl (.inr m)
end

/-! ### comprehensions -/
def wipeE (e : DE) : List Nat → DE
  | [] => e
  | v :: vs => (wipeE e vs).set v none
def okW (e : DE) (vs : List Nat) : Bool := vs.all fun v => !isOwn e[v]?
theorem wipeE_length (e : DE) : ∀ vs, (wipeE e vs).length = e.length
  | [] => rfl
  | v :: vs => by unfold wipeE; rw [List.length_set, wipeE_length e vs]
theorem wipeE_some {e : DE} {i : Nat} {x : SV} : ∀ {vs : List Nat}, (wipeE e vs)[i]? = some (some x) → e[i]? = some (some x) ∧ i ∉ vs
  | [], h => ⟨h, by simp⟩
  | v :: vs, h => by
    unfold wipeE at h
    by_cases hv : v = i
    · subst hv
      by_cases hl : v < (wipeE e vs).length
      · rw [List.getElem?_set_self hl] at h; cases h
      · rw [List.getElem?_eq_none (by simpa using hl)] at h; cases h
    · rw [List.getElem?_set_ne hv] at h
      obtain ⟨h1, h2⟩ := wipeE_some h
      exact ⟨h1, by simp only [List.mem_cons, not_or]; exact ⟨fun q => hv q.symm, h2⟩⟩
theorem wipeE_out {e : DE} {i : Nat} : ∀ {vs : List Nat}, i ∉ vs → (wipeE e vs)[i]? = e[i]?
  | [], _ => rfl
  | v :: vs, h => by
    unfold wipeE
    simp only [List.mem_cons, not_or] at h
    rw [List.getElem?_set_ne (fun q => h.1 q.symm)]
    exact wipeE_out h.2
theorem wipe_in {σ : L2.St} {i : Nat} : ∀ {vs : List Nat}, i ∈ vs → (wipe σ vs)[i]? = if i < σ.length then some none else none
  | [], h => absurd h List.not_mem_nil
  | v :: vs, h => by
    unfold wipe
    by_cases hv : v = i
    · subst hv
      by_cases hl : v < σ.length
      · rw [if_pos hl, List.getElem?_set_self (by rw [wipe_length]; exact hl)]
      · rw [if_neg hl, List.getElem?_eq_none (by rw [List.length_set, wipe_length]; omega)]
    · rw [List.getElem?_set_ne hv]
      rcases List.mem_cons.mp h with q | q
      · exact absurd q.symm hv
      · exact wipe_in q
theorem wipe_eq {a b : L2.St} {vs : List Nat} (h : ∀ j, j ∉ vs → a[j]? = b[j]?) (hl : a.length = b.length) : wipe a vs = wipe b vs := by
  apply List.ext_getElem?
  intro i
  by_cases hi : i ∈ vs
  · rw [wipe_in hi, wipe_in hi, hl]
  · rw [wipe_out hi, wipe_out hi, h i hi]
theorem wipe_wipe (σ : L2.St) (vs : List Nat) : wipe (wipe σ vs) vs = wipe σ vs := wipe_eq (fun j hj => wipe_out hj) (wipe_length σ vs)
section
variable {P : Addr → Prop} {α α' : List Addr} {e e1 : DE} {w w' : Wd} {σ σ1 : L2.St} {H H' : Hp} {vs : List Nat}
theorem okW_not (h : okW e vs = true) {v : Nat} (hv : v ∈ vs) (ds : List PyData) : e[v]? ≠ some (some (.own ds)) := fun q => by
  have := List.all_eq_true.mp h v hv
  rw [q] at this
  simp [isOwn] at this
theorem own_wipe (h : okW e vs = true) (b : Addr) : OwnAt (wipeE e vs) (wipe σ vs) b ↔ OwnAt e σ b := by
  constructor
  · rintro ⟨i, ds, h1, h2⟩
    obtain ⟨h3, h4⟩ := wipeE_some h1
    rw [wipe_out h4] at h2
    exact ⟨i, ds, h3, h2⟩
  · rintro ⟨i, ds, h1, h2⟩
    have hi : i ∉ vs := fun hv => okW_not h hv ds h1
    exact ⟨i, ds, by rw [wipeE_out hi]; exact h1, by rw [wipe_out hi]; exact h2⟩
theorem Rel.wiped (R : Rel P α e w σ H) (h : okW e vs = true) : Rel P α (wipeE e vs) w (wipe σ vs) H where
  ln := by rw [wipeE_length, wipe_length]; exact R.ln
  nd := R.nd
  pa := R.pa
  pt := R.pt
  al := R.al
  ob := fun n o a h1 h2 => (R.ob n o a h1 h2).less fun b => Msk.le fun b => (own_wipe h b).mp
  sl := fun i x hx => by
    obtain ⟨h1, h2⟩ := wipeE_some hx
    obtain ⟨v, h3, h4⟩ := R.sl i x h1
    exact ⟨v, by rw [wipe_out h2]; exact h3, h4.less fun b => Msk.le fun b => (own_wipe h b).mp⟩
  oa := fun i ds b h1 h2 => by
    obtain ⟨h3, h4⟩ := wipeE_some h1
    rw [wipe_out h4] at h2
    exact R.oa i ds b h3 h2
  od := fun i j ds es b h1 h2 h3 h4 => by
    obtain ⟨q1, q2⟩ := wipeE_some h1
    obtain ⟨q3, q4⟩ := wipeE_some h2
    rw [wipe_out q2] at h3
    rw [wipe_out q4] at h4
    exact R.od i j ds es b q1 q3 h3 h4
/-- the names of before, the things of behind -/
theorem Rel.carry (R : Rel P α e w σ H) (u : UpE α H α' H') (R' : Rel P α' e1 w' σ1 H') (ow : ∀ b, OwnAt e σ b → OwnAt e1 σ1 b) : Rel P α' e w' σ H' where
  ln := R.ln
  nd := R'.nd
  pa := R'.pa
  pt := R'.pt
  al := R'.al
  ob := fun n o a h1 h2 => (R'.ob n o a h1 h2).less fun b => Msk.le ow
  sl := fun i x h => by
    obtain ⟨v, h1, h2⟩ := R.sl i x h
    refine ⟨v, h1, ?_⟩
    cases x with
    | v d => exact Dv.upE (show Dv _ H v d from h2) u
    | own ds =>
      obtain ⟨b, xs, e1, e2, e3, e4⟩ := h2
      exact ⟨b, xs, e1, u.kp _ _ e2 (R.oa i ds b h (by rw [h1, e1])).1, e3.upE u, e4⟩
    | obj n => obtain ⟨a, h3, h4⟩ := h2; exact ⟨a, u.get h3, h4⟩
    | scr K ns => exact ScrIs.up (show ScrIs _ H v K ns from h2) (fun b o q n => u.kp b o q fun hb => n (.inr (.inl hb))) fun b m => Msk.up u m
  oa := fun i ds b h1 h2 => by
    refine ⟨fun hb => ?_, (R.oa i ds b h1 h2).2⟩
    exact R.known (.inr (.inr ⟨i, ds, h1, h2⟩)) (u.fre b hb (R.oa i ds b h1 h2).1)
  od := R.od
theorem UpE.mut {β : List Addr} {p : Addr} {o : HO} (u : UpE α H β H') (hp : H p = none) : UpE α H β (upd H' p o) := ⟨u.pre, u.fre, fun b o' h n => by rw [upd_ne (ne_of_none h hp)]; exact u.kp b o' h n, fun b h => by
  by_cases hb : b = p
  · rw [hb]; exact hp
  · rw [upd_ne hb] at h; exact u.ex b h⟩
end

def lcGo (g : G1) (t : T1) (x : X1) (e0 : DE) : List PyData → Wd → Option (List PyData × Wd)
  | [], w => some ([], w)
  | d :: ds, w => match g d e0 with
    | none => none
    | some e1 => match t e1 w with
      | none => none
      | some (false, w1) => lcGo g t x e0 ds w1
      | some (true, w1) => match x e1 w1 with
        | some (.v d', w2) => match lcGo g t x e0 ds w2 with
          | some (r, w3) => some (d' :: r, w3)
          | none => none
        | _ => none
def xLc (vs : List Nat) (it : I1) (g : G1) (t : T1) (x : X1) : X1 := fun e w => if okW e vs then match it e w with
  | none => none
  | some (ds, w1) => match lcGo g t x (wipeE e vs) ds w1 with
    | some (r, w2) => some (.v (.list r), w2)
    | none => none
  else none
theorem lcGo_len {g : G1} {t : T1} {x : X1} {e0 : DE} : ∀ {ds : List PyData} {w : Wd} {r : List PyData} {w' : Wd}, lcGo g t x e0 ds w = some (r, w') → r.length ≤ ds.length
  | [], w, r, w', h => by cases h; exact Nat.le_refl _
  | d :: ds, w, r, w', h => by
    unfold lcGo at h
    cases h1 : g d e0 with
    | none => simp [h1] at h
    | some e1 =>
      simp only [h1] at h
      cases h2 : t e1 w with
      | none => simp [h2] at h
      | some p =>
        obtain ⟨b, w1⟩ := p
        cases b with
        | false =>
          simp only [h2] at h
          exact Nat.le_succ_of_le (lcGo_len h)
        | true =>
          simp only [h2] at h
          cases h3 : x e1 w1 with
          | none => simp [h3] at h
          | some p =>
            obtain ⟨ra, w2⟩ := p
            simp only [h3] at h
            match ra, h3, h with
            | .v d', h3, h =>
              cases h4 : lcGo g t x e0 ds w2 with
              | none => simp [h4] at h
              | some p =>
                obtain ⟨r', w3⟩ := p
                simp only [h4] at h
                cases h
                exact Nat.succ_le_succ (lcGo_len h4)
theorem isl_lc {vs : List Nat} {it : I1} {g : G1} {t : T1} {x : X1} : IsLst (xLc vs it g t x) := ⟨fun e w r w' h => by
  unfold xLc at h
  by_cases hk : okW e vs = true
  · rw [if_pos hk] at h
    cases h1 : it e w with
    | none => simp [h1] at h
    | some p =>
      obtain ⟨ds, w1⟩ := p
      simp only [h1] at h
      cases h2 : lcGo g t x (wipeE e vs) ds w1 with
      | none => simp [h2] at h
      | some p =>
        obtain ⟨r', w2⟩ := p
        simp only [h2] at h
        cases h
        exact ⟨_, rfl⟩
  · rw [if_neg hk] at h; cases h⟩
theorem lc_step {wi : TI} {it : I1} {gt : TG} {g : G1} {t : T1} {x : X1} {vs vs' : List Nat} (so : SrcOw wi it) (gd : GD gt g vs') (hvs : ∀ i ∈ vs', i ∈ vs) {σ : L2.St} {H : Hp} {Q : VK} (q : tF (xLc vs it g t x) σ H Q) : tLc wi gt (tDT t) (tD x) vs σ H Q := by
  obtain ⟨P, α, e, w, r, wE, R, hf, k⟩ := q
  unfold xLc at hf
  by_cases hk : okW e vs = true
  case neg => rw [if_neg hk] at hf; cases hf
  rw [if_pos hk] at hf
  cases h1 : it e w with
  | none => simp [h1] at hf
  | some p =>
    obtain ⟨items, w1⟩ := p
    simp only [h1] at hf
    cases h2 : lcGo g t x (wipeE e vs) items w1 with
    | none => simp [h2] at hf
    | some p =>
      obtain ⟨r0, w2⟩ := p
      simp only [h2] at hf
      cases hf
      refine so.run σ H _ ⟨P, α, e, w, items, w1, R, h1, fun J S H1 α1 u1 R1 hS hlim src D hD => ?_⟩
      obtain ⟨G, Y, wk, hG, hY⟩ := src
      have hSD : ∀ b o, S b → H1 b = some o → b ≠ D := fun b o _ h => ne_of_none h hD
      have nD : ∀ β : List Addr, (∀ b ∈ β, ¬ (P b ∨ b = D)) → D ∉ β := fun β h m => h D m (.inr rfl)
      refine lc_it wk (fun i H' => ∃ α' w' acc xs rest, UpE α1 H1 α' H' ∧ Rel (fun b => P b ∨ b = D) α' e w' σ H' ∧ H' D = some (.lst xs) ∧ DvA (Msk (fun b => P b ∨ b = D) α' e σ) H' xs acc ∧ acc.length ≤ i ∧ lcGo g t x (wipeE e vs) (items.drop i) w' = some (rest, wE) ∧ r = acc ++ rest)
        ⟨α1, w1, [], [], r, (UpE.refl α1 H1).mut hD, R1.guard hD trivial, upd_same, .nil, Nat.le_refl _, h2, rfl⟩ ?_ ?_ ?_
      · rintro i H' hi ⟨α', w', acc, xs, rest, u, R', hx, dv, ha, hgo, hr⟩
        exact hG H' fun b o hb h => u.kp b o h (hS b hb)
      · rintro i x0 H' H'' hi ⟨α', w', acc, xs, rest, u, R', hx, dv, ha, hgo, hr⟩ y
        have hd : items[i]? = some items[i] := List.getElem?_eq_getElem hi
        generalize items[i] = d0 at hd
        have hdrop : items.drop i = d0 :: items.drop (i + 1) := by
          rw [List.drop_eq_getElem_cons hi]
          rw [List.getElem?_eq_getElem hi] at hd
          rw [Option.some.inj hd]
        rw [hdrop] at hgo
        unfold lcGo at hgo
        have R0 : Rel (fun b => P b ∨ b = D) α' (wipeE e vs) w' (wipe σ vs) H' := R'.wiped hk
        obtain ⟨sm, dx⟩ := hY i d0 H' x0 H'' (Msk (fun b => P b ∨ b = D) α' (wipeE e vs) (wipe σ vs)) hd y R0.mut fun v d' h => by
          refine h.up (fun b o q n => u.kp b o q fun hb => n (.inr (.inl hb))) fun b m => ?_
          rcases m with (m | m) | m | m
          · exact .inl (.inl m)
          · exact .inr (by rw [m]; exact hD)
          · by_cases hb : b ∈ α1
            · exact .inl (.inr (.inl hb))
            · exact .inr (u.fre b m hb)
          · exact .inl (.inr (.inr ((own_wipe hk b).mp m)))
        have R1' := R0.same sm
        cases h3 : g d0 (wipeE e vs) with
        | none => simp [h3] at hgo
        | some e1 =>
          simp only [h3] at hgo
          refine gd.run _ α' _ w' _ H'' x0 d0 e1 _ R1' dx h3 fun σ2 R2 ow kp l2 => ⟨?_, ?_⟩
          · rw [← wipe_wipe σ vs]
            exact wipe_eq (fun j hj => kp j fun z => hj (hvs j z)) l2
          · have owE : ∀ b, OwnAt e σ b → OwnAt e1 σ2 b := fun b o => (ow b).mpr ((own_wipe hk b).mpr o)
            have uS : UpE α1 H1 α' H'' := u.trans (.of_same sm)
            cases h4 : t e1 w' with
            | none => simp [h4] at hgo
            | some p =>
              obtain ⟨b, w3⟩ := p
              refine ⟨_, α', e1, w', b, w3, R2, h4, fun H3 α3 u3 R3 => ?_⟩
              have nD3 : ∀ o, H'' D = some o → H3 D = some o := fun o h => u3.kp D o h (nD α' R'.pa)
              have hx2 : H'' D = some (.lst xs) := sm _ _ hx
              cases b with
              | false =>
                simp only [h4] at hgo
                refine iteF ?_
                have uA : UpE α' H' α3 H3 := (UpE.of_same sm).trans u3
                exact ⟨α3, w3, acc, xs, rest, u.trans uA, R'.carry uA R3 owE, nD3 _ hx2, dv.upE uA, Nat.le_succ_of_le ha, hgo, hr⟩
              | true =>
                simp only [h4] at hgo
                refine iteT ?_
                cases h5 : x e1 w3 with
                | none => simp [h5] at hgo
                | some p =>
                  obtain ⟨ra, w4⟩ := p
                  simp only [h5] at hgo
                  match ra, h5, hgo with
                  | .v d', h5, hgo =>
                    simp only at hgo
                    cases h6 : lcGo g t x (wipeE e vs) (items.drop (i + 1)) w4 with
                    | none => simp [h6] at hgo
                    | some p =>
                      obtain ⟨rest', w5⟩ := p
                      simp only [h6] at hgo
                      cases hgo
                      refine ⟨_, α3, e1, w3, _, w4, R3, h5, fun v4 H4 α4 u4 R4 i4 => ?_⟩
                      have uA : UpE α' H' α4 H4 := ((UpE.of_same sm).trans u3).trans u4
                      have hx4 : H4 D = some (.lst xs) := u4.kp D _ (nD3 _ hx2) (nD α3 R3.pa)
                      have RC := R'.carry uA R4 owE
                      have i5 : Dv (Msk (fun b => P b ∨ b = D) α4 e σ) H4 v4 d' := Dv.less (show Dv _ H4 v4 d' from i4) fun b => Msk.le owE
                      have nm : ∀ b o, H4 b = some o → ¬ Msk (fun b => P b ∨ b = D) α4 e σ b → (upd H4 D (.lst (xs ++ [v4]))) b = some o := fun b o h n => by
                        rw [upd_ne (fun z => n (.inl (.inr z)))]
                        exact h
                      have hl4 : xs.length = acc.length := dv.length
                      have hli : i < items.length := hi
                      refine ⟨xs, hx4, lim_lt (by omega), α4, w4, acc ++ [d'], xs ++ [v4], rest', (u.trans uA).mut hD, RC.turn trivial, upd_same, ?_, ?_, h6, ?_⟩
                      · exact ((dv.upE uA).append (.cons i5 .nil)).up nm fun b m => .inl m
                      · rw [List.length_append]
                        show acc.length + 1 ≤ i + 1
                        omega
                      · rw [List.append_assoc]
                        exact hr
      · rintro H' ⟨α', w', acc, xs, rest, u, R', hx, dv, ha, hgo, hr⟩
        rw [List.drop_length] at hgo
        cases hgo
        rw [List.append_nil] at hr
        subst hr
        refine k D xs H' α' (u1.trans u) ?_ R' hx dv (Nat.le_trans ha hlim)
        cases q : H D with
        | none => rfl
        | some o =>
          have hb : D ∉ α := fun hb => by
            obtain ⟨β, hβ⟩ := u1.pre
            exact R1.known (.inr (.inl (by rw [hβ]; exact List.mem_append_left _ hb))) hD
          have := u1.kp D o q hb
          rw [hD] at this
          cases this
section
variable {X : Cx}
theorem f_lc {elt tg iter : Expr} {ifs : List Expr} {scope : Scope} {own : List (Str × Nat)} {pos : Pos} {wi : TI} {it : I1} {gt : TG} {g : G1} {t : T1} {x : X1} {vs' : List Nat} (hc : X.calm = true) (hN : X.N.Nodup) (hi : PI X tg iter wi) (so : SrcOw wi it) (ok : BlkOk X.N X.env.scope scope own)
    (hg : ∀ (s : Shared) (H : Hp) (C : Addr) (cl : List (Str × Addr)) (fp : List Addr), PG (X.blk s H scope (compEnvC scope cl C X.env) fp) tg gt) (gd : GD gt g vs') (hvs : ∀ i ∈ vs', i ∈ own.map (·.2))
    (ht : ∀ (s : Shared) (H : Hp) (C : Addr) (cl : List (Str × Addr)) (fp : List Addr), PTs (X.blk s H scope (compEnvC scope cl C X.env) fp) ifs (tDT t))
    (he : ∀ (s : Shared) (H : Hp) (C : Addr) (cl : List (Str × Addr)) (fp : List Addr), PE (X.blk s H scope (compEnvC scope cl C X.env) fp) elt (tD x)) (hs : ∀ x, foldedSetIterable iter X.env x = pure x := by intro _; rfl) :
    PE X (.ListComp elt [⟨tg, iter, ifs, 0⟩] scope pos) (tF (xLc (own.map (·.2)) it g t x)) := (pe_lc hc hN hi ok hg ht he hs).imp fun _ _ _ q => lc_step so gd hvs q
def tTrue : T1 := fun _ w => some (true, w)
theorem dts_nil : PTs X [] (tDT tTrue) := ⟨fun pins s σ H Q I q => pts_nil.run pins s σ H Q I (by
  obtain ⟨P, α, e, w, r, w', R, hf, k⟩ := q
  cases hf
  exact k H α (.refl α H) R)⟩
theorem dts_one {c : Expr} {t : T1} (h : PT X c (tDT t)) : PTs X [c] (tDT t) := pts_one h
end
end DL
namespace DL
open PySem PySem.Spec PyProof.Rows L2

/-! ### statements -/
inductive Out where
  | nx (e : DE) (w : Wd)
  | bk (e : DE) (w : Wd)
  | ct (e : DE) (w : Wd)
  | rt (r : FA) (w : Wd)
abbrev S1 := DE → Wd → Option Out
structure UpS (α : List Addr) (e : DE) (σ : L2.St) (H : Hp) (α' : List Addr) (e' : DE) (σ' : L2.St) (H' : Hp) : Prop where
  pre : ∃ β, α' = α ++ β
  fre : ∀ b ∈ α', b ∉ α → H b = none
  kp : ∀ b o, H b = some o → b ∉ α → ¬ OwnAt e σ b → H' b = some o
  ex : ∀ b, H' b = none → H b = none
  ow : ∀ b, OwnAt e' σ' b → OwnAt e σ b ∨ H b = none
def IsF (P : Addr → Prop) (α : List Addr) (H : Hp) (v : V) : FA → Prop
  | .val d => Dv (fun b => P b ∨ b ∈ α) H v d
  | .obj n => ∃ a, α[n]? = some a ∧ v = .ref a
  | .scr K ns => ScrIs (fun b => P b ∨ b ∈ α) H v K ns
section
variable {P : Addr → Prop} {α β γ : List Addr} {e e1 e2 : DE} {w w1 w2 : Wd} {σ σ1 σ2 : L2.St} {H H1 H2 : Hp}
theorem UpE.s (u : UpE α H β H1) : UpS α e σ H β e σ H1 := ⟨u.pre, u.fre, fun b o h n _ => u.kp b o h n, u.ex, fun b o => .inl o⟩
theorem UpS.trans (a : UpS α e σ H β e1 σ1 H1) (b : UpS β e1 σ1 H1 γ e2 σ2 H2) : UpS α e σ H γ e2 σ2 H2 where
  pre := by
    obtain ⟨x, rfl⟩ := a.pre
    obtain ⟨y, rfl⟩ := b.pre
    exact ⟨x ++ y, by rw [List.append_assoc]⟩
  fre := fun c hc n => by
    by_cases hb : c ∈ β
    · exact a.fre c hb n
    · exact a.ex c (b.fre c hc hb)
  kp := fun c o h n nO => by
    have h1 := a.kp c o h n nO
    refine b.kp c o h1 (fun hb => ?_) fun hO => ?_
    · rw [a.fre c hb n] at h
      cases h
    · rcases a.ow c hO with z | z
      · exact nO z
      · rw [z] at h
        cases h
  ex := fun c h => a.ex c (b.ex c h)
  ow := fun c hO => by
    rcases b.ow c hO with z | z
    · exact a.ow c z
    · exact .inr (a.ex c z)
/-- a name takes a value -/
theorem UpS.put {i : Nat} {x : SV} {v : V} (hx : ∀ ds, x ≠ .own ds) (u : UpE α H β H1) : UpS α e σ H β (e.set i (some x)) (σ.set i (some v)) H1 := ⟨u.pre, u.fre, fun b o h n _ => u.kp b o h n, u.ex, fun b o => .inl (own_put hx o)⟩
end

def EndsOk (P : Addr → Prop) (α : List Addr) (e : DE) (σ : L2.St) (H : Hp) (D : Ends) : Out → Prop
  | .nx e' w' => ∀ σ' H' α', UpS α e σ H α' e' σ' H' → Rel P α' e' w' σ' H' → D.nx σ' H'
  | .bk e' w' => ∀ σ' H' α', UpS α e σ H α' e' σ' H' → Rel P α' e' w' σ' H' → D.bk σ' H'
  | .ct e' w' => ∀ σ' H' α', UpS α e σ H α' e' σ' H' → Rel P α' e' w' σ' H' → D.ct σ' H'
  | .rt r w' => ∀ v H' α', UpS α e σ H α' [] [] H' → Rel P α' [] w' [] H' → IsF P α' H' v r → D.rt v H'
def tS (f : S1) : TS := fun D σ H => ∃ (P : Addr → Prop) (α : List Addr) (e : DE) (w : Wd) (o : Out), Rel P α e w σ H ∧ f e w = some o ∧ EndsOk P α e σ H D o
theorem EndsOk.shift {P : Addr → Prop} {α β : List Addr} {e e1 : DE} {σ σ1 : L2.St} {H H1 : Hp} {D : Ends} {o : Out} (k : EndsOk P α e σ H D o) (u : UpS α e σ H β e1 σ1 H1) : EndsOk P β e1 σ1 H1 D o := by
  cases o with
  | nx e' w' => exact fun σ' H' α' u' R' => k σ' H' α' (u.trans u') R'
  | bk e' w' => exact fun σ' H' α' u' R' => k σ' H' α' (u.trans u') R'
  | ct e' w' => exact fun σ' H' α' u' R' => k σ' H' α' (u.trans u') R'
  | rt r w' => exact fun v H' α' u' R' i => k v H' α' (u.trans u') R' i

theorem nv (d : PyData) : ∀ ds, SV.v d ≠ SV.own ds := fun ds q => nomatch q
section
variable {X : Cx} {st : Stmt} {rest a b : List Stmt} {x c tg iter : Expr} {pos : Pos} {f : X1} {t : T1} {s u : S1} {fs : A1}
def sNx : S1 := fun e w => some (.nx e w)
def sBk : S1 := fun e w => some (.bk e w)
def sCt : S1 := fun e w => some (.ct e w)
theorem nx_step {D : Ends} {σ : L2.St} {H : Hp} (q : tS sNx D σ H) : D.nx σ H := by
  obtain ⟨P, α, e, w, o, R, hf, k⟩ := q
  cases hf
  exact k σ H α (UpE.refl α H).s R
theorem ds_pass : PS X (.Pass pos) (tS sNx) := ps_pass.imp fun D σ H q => nx_step q
theorem ds_doc {z j pos'} : PS X (.Expr (.Constant (.str z) j pos) pos') (tS sNx) := ps_doc.imp fun D σ H q => nx_step q
theorem ds_nil : PSs X [] (tS sNx) := pss_nil.imp fun D σ H q => nx_step q
theorem ds_break : PS X (.Break pos) (tS sBk) := ps_break.imp fun D σ H q => by
  obtain ⟨P, α, e, w, o, R, hf, k⟩ := q
  cases hf
  exact k σ H α (UpE.refl α H).s R
theorem ds_continue : PS X (.Continue pos) (tS sCt) := ps_continue.imp fun D σ H q => by
  obtain ⟨P, α, e, w, o, R, hf, k⟩ := q
  cases hf
  exact k σ H α (UpE.refl α H).s R
def sSeq (s u : S1) : S1 := fun e w => match s e w with
  | some (.nx e1 w1) => u e1 w1
  | o => o
theorem ds_cons (h1 : PS X st (tS s)) (h2 : PSs X rest (tS u)) : PSs X (st :: rest) (tS (sSeq s u)) := (pss_cons h1 h2).imp fun D σ H q => by
  obtain ⟨P, α, e, w, o, R, hf, k⟩ := q
  unfold sSeq at hf
  cases h1 : s e w with
  | none => simp [h1] at hf
  | some o1 =>
    refine ⟨P, α, e, w, o1, R, h1, ?_⟩
    cases o1 with
    | nx e1 w1 =>
      simp only [h1] at hf
      exact fun σ' H' α' u' R' => ⟨P, α', e1, w1, o, R', hf, k.shift u'⟩
    | bk e1 w1 => simp only [h1] at hf; cases hf; exact k
    | ct e1 w1 => simp only [h1] at hf; cases hf; exact k
    | rt r w1 => simp only [h1] at hf; cases hf; exact k
theorem ds_one (h1 : PS X st (tS s)) : PSs X [st] (tS s) := pss_one h1
def sDrop (f : X1) : S1 := fun e w => match f e w with
  | some (_, w1) => some (.nx e w1)
  | none => none
theorem ds_expr (he : PE X x (tD f)) (hs : swapsWith x none pos.line X.env = pure false := by rfl) : PS X (.Expr x pos) (tS (sDrop f)) := (ps_expr he hs).imp fun D σ H q => by
  obtain ⟨P, α, e, w, o, R, hf, k⟩ := q
  unfold sDrop at hf
  cases h1 : f e w with
  | none => simp [h1] at hf
  | some p =>
    obtain ⟨r, w1⟩ := p
    simp only [h1] at hf
    cases hf
    exact ⟨P, α, e, w, r, w1, R, h1, fun v H1 α1 u1 R1 i1 => k σ H1 α1 u1.s R1⟩
/-- what leaves the def -/
def retOf (e : DE) : RS → Option FA
  | .v d => some (.val d)
  | .obj n => some (.obj n)
  | .scr _ _ => none
  | .own i => match e[i]? with
    | some (some (.own ds)) => some (.val (.list ds))
    | _ => none
theorem ret_of {P : Addr → Prop} {α : List Addr} {e : DE} {w : Wd} {σ : L2.St} {H : Hp} {v : V} {r : RS} {z : FA} (R : Rel P α e w σ H) (i : IsR P α e σ H v r) (h : retOf e r = some z) : IsF P α H v z := by
  cases r with
  | v d =>
    cases h
    exact Dv.less (show Dv _ H v d from i) fun b m => m.elim .inl fun m => .inr (.inl m)
  | obj n => cases h; exact i
  | scr K ns => cases h
  | own j =>
    obtain ⟨h1, ds, h2⟩ := i
    unfold retOf at h
    simp only [h2] at h
    cases h
    obtain ⟨v', h3, b, xs, h4, h5, h6, h7⟩ := R.sl j _ h2
    rw [h1] at h3
    have e1 : v = v' := Option.some.inj (Option.some.inj h3)
    subst e1 h4
    have q := R.oa j ds b h2 h1
    exact .lst (fun m => m.elim q.2 q.1) (.inl h5) h7 (h6.less fun b m => m.elim .inl fun m => .inr (.inl m))
def sRet (f : X1) : S1 := fun e w => match f e w with
  | some (r, w1) => match retOf e r with
    | some z => some (.rt z w1)
    | none => none
  | none => none
theorem UpS.out {P : Addr → Prop} {α β : List Addr} {e e1 : DE} {σ σ1 : L2.St} {H H1 : Hp} (u : UpS α e σ H β e1 σ1 H1) : UpS α e σ H β [] [] H1 := ⟨u.pre, u.fre, u.kp, u.ex, fun b ⟨_, _, h, _⟩ => by simp at h⟩
theorem ds_ret (he : PE X x (tD f)) : PS X (.Return (some x) pos) (tS (sRet f)) := (ps_ret he).imp fun D σ H q => by
  obtain ⟨P, α, e, w, o, R, hf, k⟩ := q
  unfold sRet at hf
  cases h1 : f e w with
  | none => simp [h1] at hf
  | some p =>
    obtain ⟨r, w1⟩ := p
    simp only [h1] at hf
    cases h2 : retOf e r with
    | none => simp [h2] at hf
    | some z =>
      simp only [h2] at hf
      cases hf
      exact ⟨P, α, e, w, r, w1, R, h1, fun v H1 α1 u1 R1 i1 => k v H1 α1 (UpS.out (P := P) u1.s) R1.bare (ret_of R1 i1 h2)⟩
def sRetN : S1 := fun _ w => some (.rt (.val .none) w)
theorem ds_retN : PS X (.Return none pos) (tS sRetN) := ps_retN.imp fun D σ H q => by
  obtain ⟨P, α, e, w, o, R, hf, k⟩ := q
  cases hf
  exact k .non H α (UpS.out (P := P) (UpE.refl α H).s) R.bare (.atm .non)
def sIf (t : T1) (s u : S1) : S1 := fun e w => match t e w with
  | some (true, w1) => s e w1
  | some (false, w1) => u e w1
  | none => none
theorem ds_if (hc : PT X c (tDT t)) (ha : PSs X a (tS s)) (hb : PSs X b (tS u)) : PS X (.If c a b pos) (tS (sIf t s u)) := (ps_if hc ha hb).imp fun D σ H q => by
  obtain ⟨P, α, e, w, o, R, hf, k⟩ := q
  unfold sIf at hf
  cases h1 : t e w with
  | none => simp [h1] at hf
  | some p =>
    obtain ⟨bb, w1⟩ := p
    simp only [h1] at hf
    refine ⟨P, α, e, w, bb, w1, R, h1, fun H1 α1 u1 R1 => ?_⟩
    cases bb with
    | true => exact iteT ⟨P, α1, e, w1, o, R1, hf, k.shift u1.s⟩
    | false => exact iteF ⟨P, α1, e, w1, o, R1, hf, k.shift u1.s⟩
/-- name = e -/
def sSet (i : Nat) (f : X1) : S1 := fun e w => match f e w with
  | some (.v d, w1) => some (.nx (e.set i (some (.v d))) w1)
  | some (.obj n, w1) => some (.nx (e.set i (some (.obj n))) w1)
  | _ => none
theorem ds_set {i : Nat} {n : Str} {pos' : Pos} (hN : X.N.Nodup) (hi : X.N[i]? = some n) (hx : Loc X.env.scope n) (he : PE X x (tD f)) (hs : swapsWith x (some (.Name n pos')) pos.line X.env = pure false := by rfl)
    (hf : X.fn n = true ∨ X.env.scope.names.lookup n = some .local := by first | exact .inl rfl | exact .inr rfl | assumption) : PS X (.Assign [.Name n pos'] x pos) (tS (sSet i f)) := (ps_set hN hi hx he hs hf).imp fun D σ H q => by
  obtain ⟨P, α, e, w, o, R, hf, k⟩ := q
  unfold sSet at hf
  split at hf
  · rename_i d w1 h1
    cases hf
    exact ⟨P, α, e, w, _, _, R, h1, fun v H1 α1 u1 R1 i1 => k _ H1 α1 (UpS.put (nv d) u1) (R1.put (nv d) i1)⟩
  · rename_i m w1 h1
    cases hf
    exact ⟨P, α, e, w, _, _, R, h1, fun v H1 α1 u1 R1 i1 => k _ H1 α1 (UpS.put (fun ds q => nomatch q) u1) (R1.put (x := .obj m) (fun ds q => nomatch q) i1)⟩
  · cases hf
/-- name = a new list, which the def goes on to change -/
def sOwn (i : Nat) (f : X1) : S1 := fun e w => match f e w with
  | some (.v (.list ds), w1) => some (.nx (e.set i (some (.own ds))) w1)
  | _ => none
theorem own_step {i : Nat} {D : Ends} {σ : L2.St} {H : Hp} (q : tS (sOwn i f) D σ H) : tAsg (tF f) (gName i) D σ H := by
  obtain ⟨P, α, e, w, o, R, hf, k⟩ := q
  unfold sOwn at hf
  split at hf
  · rename_i ds w1 h1
    cases hf
    refine ⟨P, α, e, w, ds, w1, R, h1, fun p xs H1 α1 u1 hp R1 hx dv hl => ?_⟩
    refine k _ H1 α1 ⟨u1.pre, u1.fre, fun b o h n _ => u1.kp b o h n, u1.ex, fun b ⟨j, es, h2, h3⟩ => ?_⟩ (R1.own hx dv hl fun z => not_P R hp (.inl z))
    rcases set_get h2 with ⟨hj, _⟩ | ⟨hn, q⟩
    · subst hj
      rcases set_get h3 with ⟨_, q⟩ | ⟨hn, _⟩
      · cases q; exact .inr hp
      · exact absurd rfl hn
    · rw [List.getElem?_set_ne hn] at h3
      exact .inl ⟨j, es, q, h3⟩
  · cases hf
theorem ds_own {i : Nat} {n : Str} {pos' : Pos} (hN : X.N.Nodup) (hi : X.N[i]? = some n) (hx : Loc X.env.scope n) (he : PE X x (tF f)) (hs : swapsWith x (some (.Name n pos')) pos.line X.env = pure false := by rfl)
    (hf : X.fn n = true ∨ X.env.scope.names.lookup n = some .local := by first | exact .inl rfl | exact .inr rfl | assumption) : PS X (.Assign [.Name n pos'] x pos) (tS (sOwn i f)) := (ps_set hN hi hx he hs hf).imp fun D σ H q => own_step q
/-- pattern = e -/
def sPat (g : G1) (f : X1) : S1 := fun e w => match f e w with
  | some (.v d, w1) => match g d e with
    | some e1 => some (.nx e1 w1)
    | none => none
  | _ => none
theorem ds_pat {gt : TG} {g : G1} {vs : List Nat} (he : PE X x (tD f)) (hg : PG X tg gt) (gd : GD gt g vs) (hs : swapsWithSole [tg] x pos.line X.env = pure false := by rfl) (hw : swappedStores [tg] x X.env = pure none := by rfl)
    (h1 : (assignEach [tg] X.env).map (·.2) = [assign tg X.env] := by rfl) : PS X (.Assign [tg] x pos) (tS (sPat g f)) := (ps_asg he hg hs hw h1).imp fun D σ H q => by
  obtain ⟨P, α, e, w, o, R, hf, k⟩ := q
  unfold sPat at hf
  split at hf
  · rename_i d w1 h1
    cases h2 : g d e with
    | none => simp [h2] at hf
    | some e1 =>
      simp only [h2] at hf
      cases hf
      refine ⟨P, α, e, w, .v d, w1, R, h1, fun v H1 α1 u1 R1 i1 => ?_⟩
      exact gd.run P α1 e w1 σ H1 v d e1 _ R1 i1 h2 fun σ' R' ow kp l => k σ' H1 α1 ⟨u1.pre, u1.fre, fun b o h n _ => u1.kp b o h n, u1.ex, fun b o => .inl ((ow b).mp o)⟩ R'
  · cases hf
/-- a, b = x, y: both sides written, the names plain -/
def sPar (i j : Nat) (fs : A1) : S1 := fun e w => match fs e w with
  | some ([.v d, .v d'], w1) => some (.nx ((e.set i (some (.v d))).set j (some (.v d'))) w1)
  | _ => none
theorem ds_par {i j : Nat} {n m : Str} {y : Expr} {px py pt : Pos} {kt k2 pt2} (hc : X.calm = true) (hN : X.N.Nodup) (hi : X.N[i]? = some n) (hj : X.N[j]? = some m) (hij : i ≠ j)
    (hx : X.env.scope.names.lookup n = some .local) (hy : X.env.scope.names.lookup m = some .local) (ha : PA X [x, y] (tDA fs))
    (hw : swappedStores [.Tuple [.Name n px, .Name m py] kt pt] (.Tuple [x, y] k2 pt2) X.env = pure (some [n, m]))
    (hs : swapsWithSole [.Tuple [.Name n px, .Name m py] kt pt] (.Tuple [x, y] k2 pt2) pos.line X.env = pure false := by rfl) :
    PS X (.Assign [.Tuple [.Name n px, .Name m py] kt pt] (.Tuple [x, y] k2 pt2) pos) (tS (sPar i j fs)) := (ps_par hc hN hi hj hij hx hy ha hw hs).imp fun D σ H q => by
  obtain ⟨P, α, e, w, o, R, hf, k⟩ := q
  unfold sPar at hf
  split at hf
  · rename_i d d' w1 h1
    cases hf
    refine ⟨P, α, e, w, _, w1, R, h1, fun vs H1 α1 u1 R1 i1 => ?_⟩
    cases i1 with
    | @cons v _ vr _ a b =>
      cases b with
      | @cons v' _ _ _ b b2 =>
        cases b2 with
        | nil =>
          have R2 := R1.put (i := i) (x := .v d) (v := v) (nv d) a
          have b' : SvIs (Msk P α1 (e.set i (some (.v d))) (σ.set i (some v))) α1 H1 v' (.v d') := SvIs.less (show SvIs (Msk P α1 e σ) α1 H1 v' (.v d') from b) fun c m => Msk.le (fun c => own_put (nv d)) m
          exact ⟨v, v', rfl, k _ H1 α1 ((UpS.put (nv d) u1).trans (UpS.put (nv d') (UpE.refl α1 H1))) (R2.put (i := j) (x := .v d') (v := v') (nv d') b')⟩
  · cases hf
end
end DL
namespace DL
open PySem PySem.Spec PyProof.Rows L2

/-! ### loops -/
def forGo (g : G1) (body : S1) : List PyData → DE → Wd → Option Out
  | [], e, w => some (.nx e w)
  | d :: ds, e, w => match g d e with
    | none => none
    | some e1 => match body e1 w with
      | some (.nx e2 w2) => forGo g body ds e2 w2
      | some (.ct e2 w2) => forGo g body ds e2 w2
      | some (.bk e2 w2) => some (.nx e2 w2)
      | some (.rt r w2) => some (.rt r w2)
      | none => none
def sFor (it : I1) (g : G1) (body : S1) : S1 := fun e w => match it e w with
  | some (ds, w1) => forGo g body ds e w1
  | none => none
section
variable {X : Cx} {st : Stmt} {rest a b body : List Stmt} {x c tg iter : Expr} {pos : Pos} {f : X1} {t : T1} {s u : S1} {fs : A1}
theorem for_step {wi : TI} {it : I1} {gt : TG} {g : G1} {vs : List Nat} (so : SrcOf wi it) (gd : GD gt g vs) {D : Ends} {σ : L2.St} {H : Hp} (q : tS (sFor it g s) D σ H) : tFor wi gt (tS s) D σ H := by
  obtain ⟨P, α, e, w, o, R, hf, k⟩ := q
  unfold sFor at hf
  cases h1 : it e w with
  | none => simp [h1] at hf
  | some p =>
    obtain ⟨items, w1⟩ := p
    simp only [h1] at hf
    refine so.run σ H _ ⟨P, α, e, w, items, w1, R, h1, fun J S H1 α1 u1 R1 hS hlim src => ?_⟩
    obtain ⟨G, Y, wk, hG, hY⟩ := src
    have k1 := k.shift u1.s
    refine for_it wk (fun i σ' H' => ∃ α' e' w', UpS α1 e σ H1 α' e' σ' H' ∧ Rel P α' e' w' σ' H' ∧ (forGo g s (items.drop i) e' w' = some o ∨ (D.nx σ' H' ∧ False))) ?_ ?_ ?_ ?_
    · exact ⟨α1, e, w1, (UpE.refl α1 H1).s, R1, .inl hf⟩
    · rintro i σ' H' hi ⟨α', e', w', u, R', _⟩
      exact hG H' fun b o hb h => u.kp b o h (fun z => hS b hb (.inr (.inl z))) fun z => hS b hb (.inr (.inr z))
    · rintro i x0 σ' H' H'' hi ⟨α', e', w', u, R', hgo⟩ y
      have hgo : forGo g s (items.drop i) e' w' = some o := hgo.elim id fun z => z.2.elim
      have hd : items[i]? = some items[i] := List.getElem?_eq_getElem hi
      generalize items[i] = d0 at hd
      have hdrop : items.drop i = d0 :: items.drop (i + 1) := by
        rw [List.drop_eq_getElem_cons hi]
        rw [List.getElem?_eq_getElem hi] at hd
        rw [Option.some.inj hd]
      rw [hdrop] at hgo
      unfold forGo at hgo
      obtain ⟨sm, dx⟩ := hY i d0 H' x0 H'' (Msk P α' e' σ') hd y R'.mut fun v d' h => by
        refine h.up (fun b o q n => u.kp b o q (fun hb => n (.inr (.inl hb))) fun hb => n (.inr (.inr hb))) fun b m => ?_
        rcases m with m | m | m
        · exact .inl (.inl m)
        · by_cases hb : b ∈ α1
          · exact .inl (.inr (.inl hb))
          · exact .inr (u.fre b m hb)
        · exact (u.ow b m).imp (fun z => .inr (.inr z)) id
      have R2 := R'.same sm
      cases h3 : g d0 e' with
      | none => simp [h3] at hgo
      | some e1 =>
        simp only [h3] at hgo
        refine gd.run P α' e' w' σ' H'' x0 d0 e1 _ R2 dx h3 fun σ2 R3 ow kp l2 => ?_
        have uA : UpS α1 e σ H1 α' e1 σ2 H'' := u.trans ⟨⟨[], by simp⟩, fun b h n => absurd h n, fun b o h _ _ => sm b o h, fun b h => sm.free h, fun b z => .inl ((ow b).mp z)⟩
        cases h4 : s e1 w' with
        | none => simp [h4] at hgo
        | some o2 =>
          refine ⟨P, α', e1, w', o2, R3, h4, ?_⟩
          cases o2 with
          | nx e2 w2 =>
            simp only [h4] at hgo
            exact fun σ3 H3 α3 u3 R4 => ⟨α3, e2, w2, uA.trans u3, R4, .inl hgo⟩
          | ct e2 w2 =>
            simp only [h4] at hgo
            exact fun σ3 H3 α3 u3 R4 => ⟨α3, e2, w2, uA.trans u3, R4, .inl hgo⟩
          | bk e2 w2 =>
            simp only [h4] at hgo
            cases hgo
            exact fun σ3 H3 α3 u3 R4 => k1 σ3 H3 α3 (uA.trans u3) R4
          | rt r w2 =>
            simp only [h4] at hgo
            cases hgo
            exact fun v H3 α3 u3 R4 i => k1 v H3 α3 (uA.trans u3) R4 i
    · rintro σ' H' ⟨α', e', w', u, R', hgo⟩
      have hgo : forGo g s (items.drop items.length) e' w' = some o := hgo.elim id fun z => z.2.elim
      rw [List.drop_length] at hgo
      cases hgo
      exact k1 σ' H' α' u R'
theorem ds_for {wi : TI} {it : I1} {gt : TG} {g : G1} {vs : List Nat} (hp : PassesOwn (model X.prog X.w) X.A X.env X.xe) (hc : X.calm = true) (hi : PI X tg iter wi) (so : SrcOf wi it) (hg : PG X tg gt) (gd : GD gt g vs) (hb : PSs X body (tS s))
    (hs : ∀ x, foldedSetIterable iter X.env x = pure x := by intro _; rfl) : PS X (.For tg iter body [] pos) (tS (sFor it g s)) := (ps_for hp hc hi hg hb hs).imp fun D σ H q => for_step so gd q
/-- the def's own list is walked: nobody changes it from there on -/
def froze (i : Nat) (e : DE) : DE := match e[i]? with
  | some (some (.own ds)) => e.set i (some (.v (.list ds)))
  | _ => e
def sForO (i : Nat) (it : I1) (g : G1) (body : S1) : S1 := fun e w => sFor it g body (froze i e) w
theorem froze_ok {P : Addr → Prop} {α : List Addr} {e : DE} {w : Wd} {σ : L2.St} {H : Hp} (R : Rel P α e w σ H) (i : Nat) : Rel P α (froze i e) w σ H ∧ ∀ b, OwnAt (froze i e) σ b → OwnAt e σ b := by
  unfold froze
  split
  · rename_i ds he
    obtain ⟨v, h1, b, xs, rfl, h2, h3, h4⟩ := R.sl i _ he
    have le : ∀ c, OwnAt (e.set i (some (.v (.list ds)))) σ c → OwnAt e σ c ∧ c ≠ b := fun c ⟨j, es, q1, q2⟩ => by
      rcases set_get q1 with ⟨_, q⟩ | ⟨hn, q⟩
      · cases q
      · exact ⟨⟨j, es, q, q2⟩, fun z => hn (R.od i j ds es b he q h1 (by rw [q2, z]))⟩
    have lm : ∀ c, Msk P α (e.set i (some (.v (.list ds)))) σ c → Msk P α e σ c := fun c => Msk.le fun c o => (le c o).1
    refine ⟨⟨by rw [List.length_set]; exact R.ln, R.nd, R.pa, R.pt, R.al, fun n o a q1 q2 => (R.ob n o a q1 q2).less lm, fun j y q => ?_, fun j es c q1 q2 => ?_, fun j k es fs c q1 q2 q3 q4 => ?_⟩, fun c o => (le c o).1⟩
    · rcases set_get q with ⟨rfl, rfl⟩ | ⟨hn, q⟩
      · refine ⟨_, h1, Dv.lst (fun m => ?_) (.inl h2) h4 (h3.less lm)⟩
        have z := R.oa i ds b he h1
        rcases m with m | m | m
        · exact z.2 m
        · exact z.1 m
        · exact (le b m).2 rfl
      · obtain ⟨v, q1, q2⟩ := R.sl j y q
        exact ⟨v, q1, q2.less lm⟩
    · rcases set_get q1 with ⟨_, q⟩ | ⟨hn, q⟩
      · cases q
      · exact R.oa j es c q q2
    · rcases set_get q1 with ⟨_, q⟩ | ⟨hn, q⟩
      · cases q
      · rcases set_get q2 with ⟨_, q'⟩ | ⟨hn', q'⟩
        · cases q'
        · exact R.od j k es fs c q q' q3 q4
  · exact ⟨R, fun _ o => o⟩
theorem ds_forO {wi : TI} {it : I1} {gt : TG} {g : G1} {vs : List Nat} (i : Nat) (hp : PassesOwn (model X.prog X.w) X.A X.env X.xe) (hc : X.calm = true) (hi : PI X tg iter wi) (so : SrcOf wi it) (hg : PG X tg gt) (gd : GD gt g vs) (hb : PSs X body (tS s))
    (hs : ∀ x, foldedSetIterable iter X.env x = pure x := by intro _; rfl) : PS X (.For tg iter body [] pos) (tS (sForO i it g s)) := (ps_for hp hc hi hg hb hs).imp fun D σ H q => for_step so gd (by
  obtain ⟨P, α, e, w, o, R, hf, k⟩ := q
  obtain ⟨R1, ow⟩ := froze_ok R i
  exact ⟨P, α, froze i e, w, o, R1, hf, k.shift ⟨⟨[], by simp⟩, fun b h n => absurd h n, fun b o h _ _ => h, fun b h => h, fun b z => .inl (ow b z)⟩⟩)
/-- while: so many turns at most -/
def whGo (t : T1) (body : S1) : Nat → DE → Wd → Option Out
  | 0, _, _ => none
  | n + 1, e, w => match t e w with
    | none => none
    | some (false, w1) => some (.nx e w1)
    | some (true, w1) => match body e w1 with
      | some (.nx e2 w2) => whGo t body n e2 w2
      | some (.ct e2 w2) => whGo t body n e2 w2
      | some (.bk e2 w2) => some (.nx e2 w2)
      | some (.rt r w2) => some (.rt r w2)
      | none => none
def sWhile (n : Nat) (t : T1) (body : S1) : S1 := fun e w => whGo t body n e w
theorem while_step {n : Nat} {D : Ends} {σ : L2.St} {H : Hp} (q : tS (sWhile n t s) D σ H) : tWhile (tDT t) (tS s) D σ H := by
  obtain ⟨P, α, e, w, o, R, hf, k⟩ := q
  refine ⟨fun m σ' H' => ∃ α' e' w', UpS α e σ H α' e' σ' H' ∧ Rel P α' e' w' σ' H' ∧ whGo t s m e' w' = some o, ⟨n, α, e, w, (UpE.refl α H).s, R, hf⟩, ?_⟩
  rintro m σ' H' ⟨α', e', w', u, R', hgo⟩
  cases m with
  | zero => cases hgo
  | succ m =>
    unfold whGo at hgo
    cases h1 : t e' w' with
    | none => simp [h1] at hgo
    | some p =>
      obtain ⟨b, w1⟩ := p
      refine ⟨P, α', e', w', b, w1, R', h1, fun H1 α1 u1 R1 => ?_⟩
      have uA := u.trans u1.s
      cases b with
      | false =>
        simp only [h1] at hgo
        cases hgo
        exact iteF (k σ' H1 α1 uA R1)
      | true =>
        simp only [h1] at hgo
        refine iteT ?_
        refine ⟨fun σ2 H2 => ∃ α2 e2 w2, UpS α e σ H α2 e2 σ2 H2 ∧ Rel P α2 e2 w2 σ2 H2 ∧ whGo t s m e2 w2 = some o, fun σ2 H2 z => ⟨m, Nat.lt_succ_self m, z⟩, ?_⟩
        cases h4 : s e' w1 with
        | none => simp [h4] at hgo
        | some o2 =>
          refine ⟨P, α1, e', w1, o2, R1, h4, ?_⟩
          cases o2 with
          | nx e2 w2 =>
            simp only [h4] at hgo
            exact fun σ3 H3 α3 u3 R4 => ⟨α3, e2, w2, uA.trans u3, R4, hgo⟩
          | ct e2 w2 =>
            simp only [h4] at hgo
            exact fun σ3 H3 α3 u3 R4 => ⟨α3, e2, w2, uA.trans u3, R4, hgo⟩
          | bk e2 w2 =>
            simp only [h4] at hgo
            cases hgo
            exact fun σ3 H3 α3 u3 R4 => k σ3 H3 α3 (uA.trans u3) R4
          | rt r w2 =>
            simp only [h4] at hgo
            cases hgo
            exact fun v H3 α3 u3 R4 i => k v H3 α3 (uA.trans u3) R4 i
theorem ds_while (n : Nat) (hp : PassesOwn (model X.prog X.w) X.A X.env X.xe) (hc : PT X c (tDT t)) (hb : PSs X body (tS s)) : PS X (.While c body [] pos) (tS (sWhile n t s)) := (ps_while hp hc hb).imp fun D σ H q => while_step q

/-! ### the def's own lists, the shared things, changed -/
end
section
variable {P : Addr → Prop} {α α' : List Addr} {e e' : DE} {w w' : Wd} {σ σ' : L2.St} {H H' : Hp}
/-- its own list takes other items -/
theorem Rel.ownSet (R : Rel P α e w σ H) {i : Nat} {ds es : List PyData} {b : Addr} {ys : List V} (he : e[i]? = some (some (.own ds))) (hs : σ[i]? = some (some (.ref b))) (dv : DvA (Msk P α e σ) H ys es) (hl : es.length ≤ LIM) :
    Rel P α (e.set i (some (.own es))) w σ (upd H b (.lst ys)) ∧ (∀ c, OwnAt (e.set i (some (.own es))) σ c ↔ OwnAt e σ c) := by
  have own : ∀ c, OwnAt (e.set i (some (.own es))) σ c ↔ OwnAt e σ c := fun c => by
    constructor
    · rintro ⟨j, fs, h1, h2⟩
      rcases set_get h1 with ⟨rfl, _⟩ | ⟨hn, q⟩
      · exact ⟨i, ds, he, h2⟩
      · exact ⟨j, fs, q, h2⟩
    · rintro ⟨j, fs, h1, h2⟩
      by_cases hj : i = j
      · subst hj
        exact ⟨i, es, by rw [List.getElem?_set_self (List.getElem?_eq_some_iff.mp he).1], h2⟩
      · exact ⟨j, fs, by rw [List.getElem?_set_ne hj]; exact h1, h2⟩
  have mb : Msk P α e σ b := .inr (.inr ⟨i, ds, he, hs⟩)
  have nm : ∀ c o, H c = some o → ¬ Msk P α e σ c → (upd H b (.lst ys)) c = some o := fun c o h n => by
    rw [upd_ne (fun z => n (by rw [z]; exact mb))]
    exact h
  have lm : ∀ c, Msk P α (e.set i (some (.own es))) σ c → Msk P α e σ c ∨ H c = none := fun c m => .inl (Msk.le (fun c => (own c).mp) m)
  have q := R.oa i ds b he hs
  refine ⟨⟨by rw [List.length_set]; exact R.ln, R.nd, R.pa, fun c hc => ?_, R.al, fun n o a h1 h2 => (R.ob n o a h1 h2).up (fun u z => ?_) nm lm, fun j y h => ?_, fun j fs c h1 h2 => ?_, fun j k fs gs c h1 h2 h3 h4 => ?_⟩, own⟩
  · rw [upd_ne (fun z => q.2 (by rw [← z]; exact hc))]
    exact R.pt c hc
  · rw [upd_ne (fun z => q.1 (by rw [← z]; exact List.mem_of_getElem? h2))]
    exact z
  · rcases set_get h with ⟨rfl, rfl⟩ | ⟨hn, h⟩
    · exact ⟨.ref b, hs, b, ys, rfl, upd_same, dv.up nm lm, hl⟩
    · obtain ⟨v, h1, h2⟩ := R.sl j y h
      refine ⟨v, h1, ?_⟩
      cases y with
      | v d => exact Dv.up (show Dv _ H v d from h2) nm lm
      | own fs =>
        obtain ⟨c, xs, e1, e2, e3, e4⟩ := h2
        have hc : c ≠ b := fun z => hn (R.od i j ds fs b he h hs (by rw [h1, e1, z]))
        exact ⟨c, xs, e1, by rw [upd_ne hc]; exact e2, e3.up nm lm, e4⟩
      | obj n => exact h2
      | scr K ns => exact ScrIs.up (show ScrIs _ H v K ns from h2) nm lm
  · rcases set_get h1 with ⟨rfl, _⟩ | ⟨hn, h⟩
    · rw [hs] at h2
      cases h2
      exact q
    · exact R.oa j fs c h h2
  · rcases set_get h1 with ⟨hj, _⟩ | ⟨hn, h⟩
    · subst hj
      rcases set_get h2 with ⟨hk, _⟩ | ⟨hn2, h'⟩
      · exact hk
      · exact R.od _ k ds gs c he h' h3 h4
    · rcases set_get h2 with ⟨hk, _⟩ | ⟨hn2, h'⟩
      · subst hk
        exact R.od j _ fs ds c h he h3 h4
      · exact R.od j k fs gs c h h' h3 h4
/-- a shared thing takes another content -/
theorem Rel.objSet (R : Rel P α e w σ H) {n : Nat} {a : Addr} {o : WO} {u : HO} (ha : α[n]? = some a) (hu : Mut (some u)) (ho : ∀ H', (∀ c q, H c = some q → ¬ Msk P α e σ c → H' c = some q) → H' a = some u → ObIs (Msk P α e σ) H' a o) :
    Rel P α e (w.set n o) σ (upd H a u) := by
  have ma : Msk P α e σ a := .inr (.inl (List.mem_of_getElem? ha))
  have nm : ∀ c q, H c = some q → ¬ Msk P α e σ c → (upd H a u) c = some q := fun c q h z => by
    rw [upd_ne (fun y => z (by rw [y]; exact ma))]
    exact h
  have lm : ∀ c, Msk P α e σ c → Msk P α e σ c ∨ H c = none := fun c m => .inl m
  refine ⟨R.ln, R.nd, R.pa, fun c hc => ?_, by rw [List.length_set]; exact R.al, fun m z b h1 h2 => ?_, fun j y h => ?_, R.oa, R.od⟩
  · rw [upd_ne (fun z => R.pa a (List.mem_of_getElem? ha) (by rw [← z]; exact hc))]
    exact R.pt c hc
  · by_cases hm : n = m
    · subst hm
      rw [ha] at h2
      cases h2
      have hl : n < w.length := by rw [← R.al]; exact (List.getElem?_eq_some_iff.mp ha).1
      rw [List.getElem?_set_self hl] at h1
      cases h1
      exact ho _ nm upd_same
    · rw [List.getElem?_set_ne hm] at h1
      have hb : b ≠ a := fun z => by
        subst z
        exact hm (nd_ix R.nd ha h2)
      exact (R.ob m z b h1 h2).up (fun q h => by rw [upd_ne hb]; exact h) nm lm
  · obtain ⟨v, h1, h2⟩ := R.sl j y h
    refine ⟨v, h1, ?_⟩
    cases y with
    | v d => exact Dv.up (show Dv _ H v d from h2) nm lm
    | own fs =>
      obtain ⟨c, xs, e1, e2, e3, e4⟩ := h2
      have hc : c ≠ a := fun z => (R.oa j fs c h (by rw [h1, e1])).1 (by rw [z]; exact List.mem_of_getElem? ha)
      exact ⟨c, xs, e1, by rw [upd_ne hc]; exact e2, e3.up nm lm, e4⟩
    | obj m => exact h2
    | scr K ns => exact ScrIs.up (show ScrIs _ H v K ns from h2) nm lm
/-- a new shared thing -/
theorem Rel.objNew (R : Rel P α e w σ H) {p : Addr} {o : WO} {u : HO} (hp : H p = none) (hu : Mut (some u)) (ho : ∀ M' H', (∀ c q, H c = some q → H' c = some q) → (∀ b, M' b → Msk P α e σ b ∨ H b = none) → H' p = some u → ObIs M' H' p o) :
    Rel P (α ++ [p]) e (w ++ [o]) σ (upd H p u) ∧ UpE α H (α ++ [p]) (upd H p u) := by
  have sm : Same H (upd H p u) := same_upd hp
  have np : p ∉ α := fun z => R.known (.inr (.inl z)) hp
  have nP : ¬ P p := fun z => R.known (.inl z) hp
  have up : ∀ b, Msk P (α ++ [p]) e σ b → Msk P α e σ b ∨ H b = none := fun b m => by
    rcases m with m | m | m
    · exact .inl (.inl m)
    · rcases List.mem_append.mp m with m | m
      · exact .inl (.inr (.inl m))
      · rw [List.mem_singleton.mp m]; exact .inr hp
    · exact .inl (.inr (.inr m))
  have R1 := R.same sm
  refine ⟨⟨R.ln, ?_, fun b hb => ?_, R1.pt, by rw [List.length_append, List.length_append, R.al]; rfl, fun n z a h1 h2 => ?_, fun i x h => ?_, fun i ds b h1 h2 => ⟨fun hb => ?_, (R.oa i ds b h1 h2).2⟩, R.od⟩, ⟨⟨[p], rfl⟩, fun b hb n => ?_, fun b o h _ => sm b o h, fun b h => sm.free h⟩⟩
  · rw [List.nodup_append]
    exact ⟨R.nd, by simp, fun x hx y hy => by rw [List.mem_singleton.mp hy]; exact fun z => np (z ▸ hx)⟩
  · rcases List.mem_append.mp hb with hb | hb
    · exact R.pa b hb
    · rw [List.mem_singleton.mp hb]; exact nP
  · by_cases hn : n < w.length
    · rw [List.getElem?_append_left hn] at h1
      rw [List.getElem?_append_left (by rw [R.al]; exact hn)] at h2
      exact (R.ob n z a h1 h2).up (fun u q => sm _ u q) (fun b o q _ => sm b o q) up
    · have hn1 : n = w.length := by
        have := (List.getElem?_eq_some_iff.mp h1).1
        rw [List.length_append] at this
        simp at this
        omega
      subst hn1
      rw [List.getElem?_append_right (Nat.le_refl _)] at h1
      rw [List.getElem?_append_right (by rw [R.al]; exact Nat.le_refl _)] at h2
      simp at h1
      rw [R.al] at h2
      simp at h2
      subst h1 h2
      exact ho _ _ (fun c q h => sm c q h) up upd_same
  · obtain ⟨v, h1, h2⟩ := R.sl i x h
    refine ⟨v, h1, ?_⟩
    cases x with
    | v d => exact Dv.up (show Dv _ H v d from h2) (fun b o q _ => sm b o q) up
    | own ds => obtain ⟨b, xs, e1, e2, e3, e4⟩ := h2; exact ⟨b, xs, e1, sm _ _ e2, e3.up (fun b o q _ => sm b o q) up, e4⟩
    | obj n =>
      obtain ⟨a, h3, h4⟩ := h2
      exact ⟨a, by rw [List.getElem?_append_left (List.getElem?_eq_some_iff.mp h3).1]; exact h3, h4⟩
    | scr K ns => exact ScrIs.up (show ScrIs _ H v K ns from h2) (fun b o q _ => sm b o q) up
  · rcases List.mem_append.mp hb with hb | hb
    · exact (R.oa i ds b h1 h2).1 hb
    · rw [List.mem_singleton.mp hb] at h2
      exact R.known (.inr (.inr ⟨i, ds, h1, h2⟩)) hp
  · rcases List.mem_append.mp hb with hb | hb
    · exact absurd hb n
    · rw [List.mem_singleton.mp hb]; exact hp
end
end DL
namespace DL
open PySem PySem.Spec PyProof.Rows L2

section
variable {X : Cx} {x : Expr} {pos : Pos} {f : X1} {fs : A1}
/-! ### x.append(e), x.extend(e) -/
def sAppend (i : Nat) (f : X1) : S1 := fun e w => match e[i]? with
  | some (some (.own ds)) => match f e w with
    | some (.v d, w1) => if ds.length < LIM then some (.nx (e.set i (some (.own (ds ++ [d])))) w1) else none
    | _ => none
  | some (some (.obj n)) => match f e w with
    | some (.v d, w1) => match w[n]?, w1[n]? with
      | some (.lst _), some (.lst ds) => if ds.length < LIM then some (.nx e (w1.set n (.lst (ds ++ [d])))) else none
      | _, _ => none
    | _ => none
  | _ => none
theorem own_up {e e' : DE} {σ : L2.St} (h : ∀ c, OwnAt e' σ c ↔ OwnAt e σ c) {α β : List Addr} {H H1 H2 : Hp} (u : UpE α H β H1) {b : Addr} (hb : OwnAt e σ b) (k : ∀ c, c ≠ b → H1 c = H2 c) (kb : H2 b ≠ none) : UpS α e σ H β e' σ H2 :=
  ⟨u.pre, u.fre, fun c o h n nO => by rw [← k c fun z => nO (by rw [z]; exact hb)]; exact u.kp c o h n, fun c hc => by
    by_cases hcb : c = b
    · rw [hcb] at hc; exact absurd hc kb
    · rw [← k c hcb] at hc; exact u.ex c hc, fun c o => .inl ((h c).mp o)⟩
theorem obj_up {e : DE} {σ : L2.St} {α β : List Addr} {H H1 : Hp} {a : Addr} {o : HO} (u : UpE α H β H1) (ha : a ∈ α) : UpS α e σ H β e σ (upd H1 a o) :=
  ⟨u.pre, u.fre, fun c o h n nO => by rw [upd_ne (fun z => n (by rw [z]; exact ha))]; exact u.kp c o h n, fun c hc => by
    by_cases hcb : c = a
    · rw [hcb, upd_same] at hc; cases hc
    · rw [upd_ne hcb] at hc; exact u.ex c hc, fun c o => .inl o⟩
theorem append_step {i : Nat} {K : PySem.W.Frag} {D : Ends} {σ : L2.St} {H : Hp} (q : tS (sAppend i f) D σ H) : tDrop (tBM K "list" rAppend (tVar i) (tCons (tD f) tNil)) D σ H := by
  obtain ⟨P, α, e, w, o, R, hf, k⟩ := q
  unfold sAppend at hf
  cases he : e[i]? with
  | none => simp [he] at hf
  | some z =>
    match z, he, hf with
    | none, he, hf => simp [he] at hf
    | some (.v _), he, hf => simp [he] at hf
    | some (.scr _ _), he, hf => simp [he] at hf
    | some (.own ds), he, hf =>
      simp only [he] at hf
      cases h1 : f e w with
      | none => simp [h1] at hf
      | some p =>
        obtain ⟨r, w1⟩ := p
        simp only [h1] at hf
        match r, h1, hf with
        | .v d, h1, hf =>
          simp only at hf
          by_cases hl : ds.length < LIM
          case neg => rw [if_neg hl] at hf; cases hf
          rw [if_pos hl] at hf
          cases hf
          obtain ⟨v, hv, b, xs, rfl, hb, dv, _⟩ := R.sl i _ he
          refine ⟨_, hv, .inl ⟨rfl, xs, SqL.of hb⟩, P, α, e, w, .v d, w1, R, h1, fun y H1 α1 u1 R1 i1 => ?_⟩
          have hb1 : H1 b = some (.lst xs) := u1.kp b _ hb (R.oa i ds b he hv).1
          have hx : xs.length = ds.length := dv.length
          refine ⟨b, xs, y, rfl, rfl, hb1, by rw [hx]; exact lim_lt hl, ?_⟩
          obtain ⟨R2, ow⟩ := R1.ownSet he hv ((dv.upE u1).append (.cons i1 .nil)) (by rw [List.length_append]; exact hl)
          exact k σ _ α1 (own_up ow u1 ⟨i, ds, he, hv⟩ (fun c hc => (upd_ne hc).symm) (by rw [upd_same]; exact fun z => nomatch z)) R2
    | some (.obj n), he, hf =>
      simp only [he] at hf
      cases h1 : f e w with
      | none => simp [h1] at hf
      | some p =>
        obtain ⟨r, w1⟩ := p
        simp only [h1] at hf
        match r, h1, hf with
        | .v d, h1, hf =>
          simp only at hf
          cases hw : w[n]? with
          | none => simp [hw] at hf
          | some z =>
            cases hw1 : w1[n]? with
            | none => simp [hw1] at hf
            | some z1 =>
              match z, z1, hw, hw1, hf with
              | .dct _, _, hw, hw1, hf => simp [hw] at hf
              | .dtt _, _, hw, hw1, hf => simp [hw] at hf
              | .lst _, .dtt _, hw, hw1, hf => simp [hw, hw1] at hf
              | .lst _, .dct _, hw, hw1, hf => simp [hw, hw1] at hf
              | .lst ds0, .lst ds, hw, hw1, hf =>
                simp only [hw, hw1] at hf
                by_cases hl : ds.length < LIM
                case neg => rw [if_neg hl] at hf; cases hf
                rw [if_pos hl] at hf
                cases hf
                obtain ⟨v, hv, a, ha, rfl⟩ := R.sl i _ he
                obtain ⟨xs0, hb0, _, _⟩ := R.ob n _ a hw ha
                refine ⟨_, hv, .inl ⟨rfl, xs0, SqL.of hb0⟩, P, α, e, w, .v d, w1, R, h1, fun y H1 α1 u1 R1 i1 => ?_⟩
                obtain ⟨xs, hb1, dv, _⟩ := R1.ob n _ a hw1 (u1.get ha)
                have hx : xs.length = ds.length := dv.length
                refine ⟨a, xs, y, rfl, rfl, hb1, by rw [hx]; exact lim_lt hl, ?_⟩
                have R2 := R1.objSet (o := .lst (ds ++ [d])) (u := .lst (xs ++ [y])) (u1.get ha) trivial fun H' nm h => ⟨xs ++ [y], h, (dv.append (.cons i1 .nil)).up nm fun c m => .inl m, by rw [List.length_append]; exact hl⟩
                exact k σ _ α1 (obj_up u1 (List.mem_of_getElem? ha)) R2
def sExtend (i : Nat) (f : X1) : S1 := fun e w => match e[i]? with
  | some (some (.own ds)) => match f e w with
    | some (.v (.list es), w1) => if ds.length + es.length ≤ LIM then some (.nx (e.set i (some (.own (ds ++ es)))) w1) else none
    | _ => none
  | _ => none
theorem extend_step {i : Nat} {K : PySem.W.Frag} {D : Ends} {σ : L2.St} {H : Hp} (q : tS (sExtend i f) D σ H) : tDrop (tBM K "list" rExtend (tVar i) (tCons (tF f) tNil)) D σ H := by
  obtain ⟨P, α, e, w, o, R, hf, k⟩ := q
  unfold sExtend at hf
  cases he : e[i]? with
  | none => simp [he] at hf
  | some z =>
    match z, he, hf with
    | none, he, hf => simp [he] at hf
    | some (.v _), he, hf => simp [he] at hf
    | some (.obj _), he, hf => simp [he] at hf
    | some (.scr _ _), he, hf => simp [he] at hf
    | some (.own ds), he, hf =>
      simp only [he] at hf
      cases h1 : f e w with
      | none => simp [h1] at hf
      | some p =>
        obtain ⟨r, w1⟩ := p
        simp only [h1] at hf
        match r, h1, hf with
        | .v (.list es), h1, hf =>
          simp only at hf
          by_cases hl : ds.length + es.length ≤ LIM
          case neg => rw [if_neg hl] at hf; cases hf
          rw [if_pos hl] at hf
          cases hf
          obtain ⟨v, hv, b, xs, rfl, hb, dv, _⟩ := R.sl i _ he
          refine ⟨_, hv, .inl ⟨rfl, xs, SqL.of hb⟩, P, α, e, w, es, w1, R, h1, fun p ys H1 α1 u1 hp R1 hx dy _ => ?_⟩
          have hb1 : H1 b = some (.lst xs) := u1.kp b _ hb (R.oa i ds b he hv).1
          have hx1 : xs.length = ds.length := dv.length
          have hx2 : ys.length = es.length := dy.length
          refine ⟨b, p, xs, ys, rfl, rfl, hb1, hx, by rw [hx1, hx2]; exact lim_le hl, ?_⟩
          have R1' : Rel P α1 e w1 σ H1 := R1.lessP fun c q => .inl q
          obtain ⟨R2, ow⟩ := R1'.ownSet he hv ((dv.upE u1).append (dy.less fun c m => m.more)) (by rw [List.length_append]; exact hl)
          exact k σ _ α1 (own_up ow u1 ⟨i, ds, he, hv⟩ (fun c hc => (upd_ne hc).symm) (by rw [upd_same]; exact fun z => nomatch z)) R2

/-! ### a shared dict -/
def getK (kvs : List (Key × PyData)) (k : Key) : Option PyData := (kvs.find? fun kv => decide (kv.1 = k)).map (·.2)
def putKD (kvs : List (Key × PyData)) (k : Key) (d : PyData) : List (Key × PyData) :=
  if (kvs.any fun kv => decide (kv.1 = k)) = true then kvs.map (fun kv => if kv.1 = k then (kv.1, d) else kv) else kvs ++ [(k, d)]
abbrev KVs (M : Addr → Prop) (H : Hp) : List (Key × V) → List (Key × PyData) → Prop := Paired (fun (q : Key × V) (p : Key × PyData) => q.1 = p.1 ∧ Dv M H q.2 p.2)
theorem kvs_get {M : Addr → Prop} {H : Hp} {k : Key} : ∀ {vs : List (Key × V)} {kvs : List (Key × PyData)} {d : PyData}, KVs M H vs kvs → getK kvs k = some d → ∃ v, valV vs k = some v ∧ Dv M H v d
  | _, _, _, .nil, h => by simp [getK] at h
  | _, _, d, .cons (b := p) (a := q) h t, g => by
    by_cases e : p.1 = k
    · have g' : some p.2 = some d := by simpa [getK, List.find?_cons, e] using g
      cases g'
      exact ⟨q.2, valV_pos (h.1.trans e), h.2⟩
    · obtain ⟨v, h1, h2⟩ := kvs_get (d := d) t (by simpa [getK, List.find?_cons, e] using g)
      exact ⟨v, by rw [valV_neg (fun z => e (h.1.symm.trans z))]; exact h1, h2⟩
theorem kvs_any {M : Addr → Prop} {H : Hp} {k : Key} : ∀ {vs : List (Key × V)} {kvs : List (Key × PyData)}, KVs M H vs kvs → (vs.any fun kv => decide (kv.1 = k)) = (kvs.any fun kv => decide (kv.1 = k))
  | _, _, .nil => rfl
  | _, _, .cons h t => by rw [List.any_cons, List.any_cons, kvs_any t, h.1]
theorem kvs_map {M : Addr → Prop} {H : Hp} {k : Key} {v : V} {d : PyData} (hv : Dv M H v d) : ∀ {vs : List (Key × V)} {kvs : List (Key × PyData)}, KVs M H vs kvs → KVs M H (vs.map fun kv => if kv.1 = k then (kv.1, v) else kv) (kvs.map fun kv => if kv.1 = k then (kv.1, d) else kv)
  | _, _, .nil => .nil
  | _, _, .cons (b := p) (a := q) h t => by
    rw [List.map_cons, List.map_cons]
    refine .cons ?_ (kvs_map hv t)
    by_cases e : p.1 = k
    · rw [if_pos e, if_pos (h.1.trans e)]; exact ⟨h.1, hv⟩
    · rw [if_neg e, if_neg (fun z => e (h.1.symm.trans z))]; exact h
theorem kvs_app {M : Addr → Prop} {H : Hp} : ∀ {vs ws : List (Key × V)} {kvs lvs : List (Key × PyData)}, KVs M H vs kvs → KVs M H ws lvs → KVs M H (vs ++ ws) (kvs ++ lvs)
  | _, _, _, _, .nil, h => h
  | _, _, _, _, .cons a t, h => .cons a (kvs_app t h)
theorem kvs_put {M : Addr → Prop} {H : Hp} {k : Key} {v : V} {d : PyData} (hv : Dv M H v d) {vs : List (Key × V)} {kvs : List (Key × PyData)} (h : KVs M H vs kvs) : KVs M H (putK vs k v) (putKD kvs k d) := by
  unfold putK putKD
  rw [kvs_any h]
  split
  · exact kvs_map hv h
  · exact kvs_app h (.cons ⟨rfl, hv⟩ .nil)
theorem kvs_len {M : Addr → Prop} {H : Hp} : ∀ {vs : List (Key × V)} {kvs : List (Key × PyData)}, KVs M H vs kvs → vs.length = kvs.length
  | _, _, .nil => rfl
  | _, _, .cons _ t => congrArg (· + 1) (kvs_len t)
def xKey (i : Nat) (k : Key) : X1 := fun e w => match e[i]? with
  | some (some (.obj n)) => match w[n]? with
    | some (.dct kvs) => match getK kvs k with
      | some d => some (.v d, w)
      | none => none
    | _ => none
  | _ => none
theorem key_step {i : Nat} {k : Key} {σ : L2.St} {H : Hp} {Q : VK} (q : tD (xKey i k) σ H Q) : tDGet (tVar i) (tC (kV k)) σ H Q := by
  obtain ⟨P, α, e, w, r, w', R, hf, kk⟩ := q
  unfold xKey at hf
  cases he : e[i]? with
  | none => simp [he] at hf
  | some z =>
    match z, he, hf with
    | none, he, hf => simp [he] at hf
    | some (.v _), he, hf => simp [he] at hf
    | some (.own _), he, hf => simp [he] at hf
    | some (.scr _ _), he, hf => simp [he] at hf
    | some (.obj n), he, hf =>
      simp only [he] at hf
      cases hw : w[n]? with
      | none => simp [hw] at hf
      | some z =>
        match z, hw, hf with
        | .lst _, hw, hf => simp [hw] at hf
        | .dtt _, hw, hf => simp [hw] at hf
        | .dct kvs, hw, hf =>
          simp only [hw] at hf
          cases hg : getK kvs k with
          | none => simp [hg] at hf
          | some d =>
            simp only [hg] at hf
            cases hf
            obtain ⟨v, hv, a, ha, rfl⟩ := R.sl i _ he
            obtain ⟨vs, hb, pr⟩ := R.ob n _ a hw ha
            obtain ⟨u, h1, h2⟩ := kvs_get pr hg
            refine ⟨_, hv, a, u, rfl, ?_, kk u H α (.refl α H) R h2⟩
            rw [← h1]
            exact DGet.k hb
theorem d_keyS {i : Nat} {k : Str} {o c : Expr} (hu : X.A.units + 1 < cLine) (ho : PE X o (tVar i)) (hi : PE X c (tC (.str k))) (hs : NoSl c) : PE X (.Subscript o c pos) (tD (xKey i (.inr k))) := (pe_dget hu ho hi hs).imp fun _ _ _ q => key_step (k := .inr k) q
def sPutK (i : Nat) (k : Key) (f : X1) : S1 := fun e w => match f e w with
  | some (.v d, w1) => match e[i]? with
    | some (some (.obj n)) => match w1[n]? with
      | some (.dct kvs) => if kvs.length < LIM then some (.nx e (w1.set n (.dct (putKD kvs k d)))) else none
      | _ => none
    | _ => none
  | _ => none
theorem put_step {i : Nat} {k : Key} {D : Ends} {σ : L2.St} {H : Hp} (q : tS (sPutK i k f) D σ H) : sDPut (tVar i) (tC (kV k)) (tD f) D σ H := by
  obtain ⟨P, α, e, w, o, R, hf, kk⟩ := q
  unfold sPutK at hf
  cases h1 : f e w with
  | none => simp [h1] at hf
  | some p =>
    obtain ⟨r, w1⟩ := p
    simp only [h1] at hf
    match r, h1, hf with
    | .v d, h1, hf =>
      simp only at hf
      cases he : e[i]? with
      | none => simp [he] at hf
      | some z =>
        match z, he, hf with
        | none, he, hf => simp [he] at hf
        | some (.v _), he, hf => simp [he] at hf
        | some (.own _), he, hf => simp [he] at hf
        | some (.scr _ _), he, hf => simp [he] at hf
        | some (.obj n), he, hf =>
          simp only [he] at hf
          cases hw : w1[n]? with
          | none => simp [hw] at hf
          | some z =>
            match z, hw, hf with
            | .lst _, hw, hf => simp [hw] at hf
            | .dtt _, hw, hf => simp [hw] at hf
            | .dct kvs, hw, hf =>
              simp only [hw] at hf
              by_cases hl : kvs.length < LIM
              case neg => rw [if_neg hl] at hf; cases hf
              rw [if_pos hl] at hf
              cases hf
              refine ⟨P, α, e, w, .v d, w1, R, h1, fun v H1 α1 u1 R1 i1 => ?_⟩
              obtain ⟨v', hv, a, ha, rfl⟩ := R1.sl i _ he
              obtain ⟨vs, hb, pr⟩ := R1.ob n _ a hw ha
              refine ⟨_, hv, a, _, rfl, DPut.k (k := k) hb (by rw [kvs_len pr]; exact lim_lt hl), ?_⟩
              have R2 := R1.objSet (o := .dct (putKD kvs k d)) (u := .dK (putK vs k v)) ha trivial fun H' nm h => ⟨_, h, kvs_put (Dv.up (show Dv _ H1 v d from i1) nm fun c m => .inl m) (pmapQ pr fun p q z => ⟨z.1, z.2.up nm fun c m => .inl m⟩)⟩
              exact kk σ _ α1 (u1.s.trans (obj_up (UpE.refl α1 H1) (List.mem_of_getElem? ha))) R2
theorem ds_putS {i : Nat} {k : Str} {o c : Expr} {pos' : Pos} (hu : X.A.units + 1 < cLine) (ho : PE X o (tVar i)) (hi : PE X c (tC (.str k))) (hv : PE X x (tD f)) (hs : swapsWith x (some (.Subscript o c pos')) pos.line X.env = pure false := by rfl) :
    PS X (.Assign [.Subscript o c pos'] x pos) (tS (sPutK i (.inr k) f)) := (ps_dput hu ho hi hv hs).imp fun _ _ _ q => put_step (k := .inr k) q
end
end DL
namespace DL
open PySem PySem.Spec PyProof.Rows L2

/-! ### defs -/
def toSV : FA → SV
  | .val d => .v d
  | .obj n => .obj n
  | .scr K ns => .scr K ns
def startE (n : Nat) (as : List FA) : DE := (as.map fun a => some (toSV a)) ++ List.replicate (n - as.length) none
/-- a def's meaning: what it gives, the shared things behind it -/
def fnD (n : Nat) (body : S1) (as : List FA) (w : Wd) : Option (FA × Wd) := match body (startE n as) w with
  | some (.rt r w') => some (r, w')
  | some (.nx _ w') => some (.val .none, w')
  | _ => none
/-- .. of one that has to do with data alone -/
def fnP (n : Nat) (body : S1) (ds : List PyData) : Option PyData := match body (startE n (ds.map .val)) [] with
  | some (.rt (.val d) _) => some d
  | some (.nx _ _) => some .none
  | _ => none
def IsFs (P : Addr → Prop) (α : List Addr) (H : Hp) : List V → List FA → Prop := Paired fun v a => IsF P α H v a
def spD (n : Nat) (F : List FA → Wd → Option (FA × Wd)) : Sp := fun vs H Q _ => ∃ (P : Addr → Prop) (α : List Addr) (as : List FA) (w : Wd) (r : FA) (w' : Wd), Rel P α [] w [] H ∧ IsFs P α H vs as ∧ as.length = n ∧ F as w = some (r, w') ∧
  ∀ v H' α', UpE α H α' H' → Rel P α' [] w' [] H' → IsF P α' H' v r → Q v H'
def spP (n : Nat) (F : List PyData → Option PyData) : Sp := fun vs H Q _ => ∃ (M : Addr → Prop) (ds : List PyData) (z : PyData), (∀ b, M b → Mut (H b)) ∧ DvA M H vs ds ∧ ds.length = n ∧ F ds = some z ∧
  ∀ v H', Same H H' → Dv M H' v z → Q v H'
theorem Paired.len {A B : Type} {F : A → B → Prop} : ∀ {l : List A} {m : List B}, Paired F l m → l.length = m.length
  | _, _, .nil => rfl
  | _, _, .cons _ t => congrArg (· + 1) (Paired.len t)
theorem startE_get {n : Nat} {as : List FA} {i : Nat} {x : SV} (h : (startE n as)[i]? = some (some x)) : ∃ a, as[i]? = some a ∧ x = toSV a := by
  unfold startE at h
  by_cases hi : i < as.length
  · rw [List.getElem?_append_left (by simpa using hi), List.getElem?_map] at h
    cases e : as[i]? with
    | none => rw [e] at h; cases h
    | some a => rw [e] at h; cases h; exact ⟨a, rfl, rfl⟩
  · rw [List.getElem?_append_right (by simpa using hi), List.getElem?_replicate] at h
    split at h <;> cases h
theorem start_get {N : List Str} {vs : List V} {i : Nat} {v : V} (h : vs[i]? = some v) : (start N vs)[i]? = some (some v) := by
  unfold L2.start
  have hi := (List.getElem?_eq_some_iff.mp h).1
  rw [List.getElem?_append_left (by simpa using hi), List.getElem?_map, h]
  rfl
theorem toSV_own (a : FA) (ds : List PyData) : toSV a ≠ .own ds := by cases a <;> exact fun q => nomatch q
theorem start_own {N : List Str} {vs : List V} {n : Nat} {as : List FA} {b : Addr} (o : OwnAt (startE n as) (start N vs) b) : False := by
  obtain ⟨i, ds, h, _⟩ := o
  obtain ⟨a, _, q⟩ := startE_get h
  exact toSV_own a ds q.symm
theorem Paired.getR {A B : Type} {F : A → B → Prop} : ∀ {l : List A} {m : List B} {i : Nat} {b : B}, Paired F l m → m[i]? = some b → ∃ a, l[i]? = some a ∧ F a b
  | _, _, _, _, .nil, h => by simp at h
  | _, _, 0, _, .cons h _, e => by simp at e; subst e; exact ⟨_, rfl, h⟩
  | _, _, i + 1, b, .cons _ t, e => by
    obtain ⟨a, h1, h2⟩ := Paired.getR (i := i) (b := b) t (by simpa using e)
    exact ⟨a, by simpa using h1, h2⟩
theorem rel_start {P : Addr → Prop} {α : List Addr} {as : List FA} {w : Wd} {H : Hp} {vs : List V} {N : List Str} (R : Rel P α [] w [] H) (hi : IsFs P α H vs as) (hl : as.length ≤ N.length) : Rel P α (startE N.length as) w (start N vs) H := by
  have hv : vs.length = as.length := Paired.len hi
  have lm : ∀ b, Msk P α (startE N.length as) (start N vs) b → Msk P α [] [] b := fun b m => by
    rcases m with m | m | m
    · exact .inl m
    · exact .inr (.inl m)
    · exact (start_own m).elim
  refine ⟨?_, R.nd, R.pa, R.pt, R.al, fun n o a h1 h2 => (R.ob n o a h1 h2).less lm, fun i x h => ?_, fun i ds b h => ?_, fun i j ds es b h => ?_⟩
  · unfold startE L2.start
    simp
    omega
  · obtain ⟨a, h1, rfl⟩ := startE_get h
    obtain ⟨v, h2, h3⟩ := Paired.getR hi h1
    refine ⟨v, start_get h2, ?_⟩
    cases a with
    | val d => exact Dv.less (show Dv _ H v d from h3) fun b m => (lm b m).elim .inl fun m => m.elim .inr fun ⟨_, _, q, _⟩ => by simp at q
    | obj n => exact h3
    | scr K ns => exact ScrIs.up (show ScrIs _ H v K ns from h3) (fun _ _ q _ => q) fun b m => .inl ((lm b m).elim .inl fun m => m.elim .inr fun ⟨_, _, q, _⟩ => by simp at q)
  · obtain ⟨a, _, q⟩ := startE_get h
    exact absurd q.symm (toSV_own a ds)
  · obtain ⟨a, _, q⟩ := startE_get h
    exact absurd q.symm (toSV_own a ds)
theorem UpS.enter {α β : List Addr} {N : List Str} {vs : List V} {n : Nat} {as : List FA} {e1 : DE} {σ1 : L2.St} {H H1 : Hp} (u : UpS α (startE n as) (start N vs) H β e1 σ1 H1) : UpE α H β H1 :=
  ⟨u.pre, u.fre, fun b o h k => u.kp b o h k fun z => start_own z, u.ex⟩
section
variable {P : Program} {w : World} {K : PySem.W.Frag} {mg : Str → Option Value} {base : Heap}
theorem body_D {N : List Str} {body : S1} {n : Nat} (hn : n ≤ N.length) {vs : List V} {H : Hp} {Q : VK} {E : XK} (h : spD n (fnD N.length body) vs H Q E) : tS body { nx := fun _ H' => Q .non H', rt := Q } (start N vs) H := by
  obtain ⟨P, α, as, w, r, w', R, hi, hl, hf, k⟩ := h
  unfold fnD at hf
  cases h1 : body (startE N.length as) w with
  | none => simp [h1] at hf
  | some o =>
    refine ⟨P, α, startE N.length as, w, o, rel_start R hi (by omega), h1, ?_⟩
    cases o with
    | rt z w1 =>
      simp only [h1] at hf
      cases hf
      exact fun v H' α' u R' i => k v H' α' u.enter R' i
    | nx e1 w1 =>
      simp only [h1] at hf
      cases hf
      exact fun σ' H' α' u R' => k .non H' α' u.enter R'.bare (.atm .non)
    | bk e1 w1 => simp [h1] at hf
    | ct e1 w1 => simp [h1] at hf
theorem vals_fs {M : Addr → Prop} {H : Hp} : ∀ {vs : List V} {ds : List PyData}, DvA M H vs ds → IsFs M [] H vs (ds.map .val)
  | _, _, .nil => .nil
  | _, _, .cons a b => .cons (Dv.less a fun b m => m.elim id fun z => by simp at z) (vals_fs b)
theorem rel_pure {M : Addr → Prop} {H : Hp} (hm : ∀ b, M b → Mut (H b)) : Rel M [] [] [] [] H :=
  ⟨rfl, List.nodup_nil, fun b h => by simp at h, hm, rfl, fun n o a h => by simp at h, fun i x h => by simp at h, fun i ds b h => by simp at h, fun i j ds es b h => by simp at h⟩
theorem body_P {N : List Str} {body : S1} {n : Nat} (hn : n ≤ N.length) {vs : List V} {H : Hp} {Q : VK} {E : XK} (h : spP n (fnP N.length body) vs H Q E) : tS body { nx := fun _ H' => Q .non H', rt := Q } (start N vs) H := by
  obtain ⟨M, ds, z, hm, hi, hl, hf, k⟩ := h
  unfold fnP at hf
  cases h1 : body (startE N.length (ds.map .val)) [] with
  | none => simp [h1] at hf
  | some o =>
    refine ⟨M, [], startE N.length (ds.map .val), [], o, rel_start (rel_pure hm) (vals_fs hi) (by simpa using by omega), h1, ?_⟩
    have sm : ∀ {α' e1 σ1 H'}, UpS [] (startE N.length (ds.map .val)) (start N vs) H α' e1 σ1 H' → Same H H' := fun u b o h => u.enter.kp b o h (by simp)
    cases o with
    | rt z w1 =>
      match z, h1, hf with
      | .val d, h1, hf =>
        simp only [h1] at hf
        cases hf
        exact fun v H' α' u R' i => k v H' (sm u) (Dv.less (show Dv _ H' v _ from i) fun b m => .inl m)
      | .obj n, h1, hf => simp [h1] at hf
      | .scr _ _, h1, hf => simp [h1] at hf
    | nx e1 w1 =>
      simp only [h1] at hf
      cases hf
      exact fun σ' H' α' u R' => k .non H' (sm u) (.atm .non)
    | bk e1 w1 => simp [h1] at hf
    | ct e1 w1 => simp [h1] at hf
theorem fn_D {x qual : Str} {st : Stmt} {f : Addr} {fd : FuncData} {N ps : List Str} {k : Nat} {body : S1} (F : Fun K x qual st f fd) (S : FnScope N ps (defScope st))
    (h : ∀ (cdv : Value) (A : Around) (outer : List Env) (s : Shared) (H : Hp) (E : XK), Room k (A.deeper (envOfC qual (defScope st) s.heap.objs.size f cdv)) → PSs (cxOf CX0 P w K mg base N qual (defScope st) f cdv A outer s H E).nox (defBody st) (tS body)) :
    FnOk P w K mg base CX0 (k + 1) f fd ps (spD ps.length (fnD N.length body)) := by
  refine F.ok S (fun vs H Q E q => ?_) (fun cdv A outer s H vs Q E hr q => ⟨_, h cdv A outer s H E hr, body_D ?_ q⟩)
  · obtain ⟨_, _, as, _, _, _, _, hi, hl, _⟩ := q
    rw [Paired.len hi, hl]
  · have := congrArg List.length S.pre
    rw [List.length_take] at this
    omega
theorem fn_P {x qual : Str} {st : Stmt} {f : Addr} {fd : FuncData} {N ps : List Str} {k : Nat} {body : S1} (F : Fun K x qual st f fd) (S : FnScope N ps (defScope st))
    (h : ∀ (cdv : Value) (A : Around) (outer : List Env) (s : Shared) (H : Hp) (E : XK), Room k (A.deeper (envOfC qual (defScope st) s.heap.objs.size f cdv)) → PSs (cxOf CX0 P w K mg base N qual (defScope st) f cdv A outer s H E).nox (defBody st) (tS body)) :
    FnOk P w K mg base CX0 (k + 1) f fd ps (spP ps.length (fnP N.length body)) := by
  refine F.ok S (fun vs H Q E q => ?_) (fun cdv A outer s H vs Q E hr q => ⟨_, h cdv A outer s H E hr, body_P ?_ q⟩)
  · obtain ⟨M, ds, z, hm, hi, hl, hf, k⟩ := q
    rw [hi.length, hl]
  · have := congrArg List.length S.pre
    rw [List.length_take] at this
    omega
end

/-! ### calls -/
def plainR : List RS → Bool
  | [] => true
  | .v _ :: r => plainR r
  | _ :: _ => false
def xCallP (F : List PyData → Option PyData) (fs : A1) : X1 := fun e w => match fs e w with
  | some (rs, w1) => match valsOf e w1 rs with
    | some ds => match F ds with
      | some z => if plainR rs || flat z then some (.v z, w1) else none
      | none => none
    | none => none
  | none => none
def argOf : List RS → Option (List FA)
  | [] => some []
  | .v d :: r => (argOf r).map (.val d :: ·)
  | .obj n :: r => (argOf r).map (.obj n :: ·)
  | .scr K ns :: r => (argOf r).map (.scr K ns :: ·)
  | .own _ :: _ => none
def resOf : FA → RS
  | .val d => .v d
  | .obj n => .obj n
  | .scr K ns => .scr K ns
def xCallD (F : List FA → Wd → Option (FA × Wd)) (fs : A1) : X1 := fun e w => match fs e w with
  | some (rs, w1) => match argOf rs with
    | some as => match F as w1 with
      | some (r, w2) => some (resOf r, w2)
      | none => none
    | none => none
  | none => none
theorem plain_dv {P : Addr → Prop} {α : List Addr} {e : DE} {w : Wd} {σ : L2.St} {H : Hp} : ∀ {vs : List V} {rs : List RS} {ds : List PyData}, plainR rs = true → IsRs P α e σ H vs rs → valsOf e w rs = some ds → DvA (Msk P α e σ) H vs ds
  | _, _, _, _, .nil, q => by cases q; exact .nil
  | _, .v d :: rs, ds, hp, .cons a b, q => by
    unfold valsOf at q
    have h1 : valOf e w (.v d) = some d := rfl
    rw [h1] at q
    cases h2 : valsOf e w rs with
    | none => simp [h2] at q
    | some ds' =>
      simp only [h2] at q
      cases q
      exact .cons a (plain_dv (by simpa [plainR] using hp) b h2)
  | _, .own _ :: _, _, hp, .cons _ _, _ => by simp [plainR] at hp
  | _, .obj _ :: _, _, hp, .cons _ _, _ => by simp [plainR] at hp
  | _, .scr _ _ :: _, _, hp, .cons _ _, _ => by simp [plainR] at hp
theorem Dv0.bot {M : Addr → Prop} {H : Hp} {v : V} {d : PyData} (h : Dv0 M H v d) : Dv (fun _ => False) H v d := by
  rcases h with h | ⟨a, xs, ds, rfl, rfl, h1, h2, h3⟩
  · exact h.less fun b z => z.elim
  · exact .lst (fun z => z) (.inl h1) h3 (h2.less fun b z => z.elim)
theorem bots {M : Addr → Prop} {H : Hp} : ∀ {vs : List V} {ds : List PyData}, Paired (Dv0 M H) vs ds → DvA (fun _ => False) H vs ds
  | _, _, .nil => .nil
  | _, _, .cons a b => .cons a.bot (bots b)
theorem arg_fs {P P' : Addr → Prop} {α : List Addr} {e : DE} {σ : L2.St} {H : Hp} (hP : ∀ b, P' b ∨ b ∈ α → Msk P α e σ b) : ∀ {vs : List V} {rs : List RS} {as : List FA}, IsRs P α e σ H vs rs → argOf rs = some as → IsFs P' α H vs as
  | _, _, _, .nil, q => by cases q; exact .nil
  | _, .v d :: rs, as, .cons a b, q => by
    cases h : argOf rs with
    | none => simp [argOf, h] at q
    | some as' =>
      simp only [argOf, h, Option.map_some] at q
      cases q
      exact .cons (Dv.less (show Dv _ H _ d from a) hP) (arg_fs hP b h)
  | _, .obj n :: rs, as, .cons a b, q => by
    cases h : argOf rs with
    | none => simp [argOf, h] at q
    | some as' =>
      simp only [argOf, h, Option.map_some] at q
      cases q
      exact .cons a (arg_fs hP b h)
  | _, .scr K ns :: rs, as, .cons a b, q => by
    cases h : argOf rs with
    | none => simp [argOf, h] at q
    | some as' =>
      simp only [argOf, h, Option.map_some] at q
      cases q
      exact .cons (ScrIs.up (show ScrIs _ H _ K ns from a) (fun _ _ q _ => q) fun b m => .inl (hP b m)) (arg_fs hP b h)
  | _, .own _ :: _, _, .cons _ _, q => by simp [argOf] at q
section
variable {X : Cx} {k : Nat} {f : Addr} {fd : FuncData} {ps : List Str} {x : Str} {p pos : Pos} {e : Expr} {es : List Expr} {fs : A1}
theorem callP_step {F : List PyData → Option PyData} {n : Nat} (hn : ALen fs n) {E : XK} {σ : L2.St} {H : Hp} {Q : VK} (q : tD (xCallP F fs) σ H Q) : tCall (spP n F) [] E (tDA fs) σ H Q := by
  obtain ⟨P, α, e, w, r, w', R, hf, kk⟩ := q
  unfold xCallP at hf
  cases h1 : fs e w with
  | none => simp [h1] at hf
  | some p =>
    obtain ⟨rs, w1⟩ := p
    simp only [h1] at hf
    cases h2 : valsOf e w1 rs with
    | none => simp [h2] at hf
    | some ds =>
      simp only [h2] at hf
      cases h3 : F ds with
      | none => simp [h3] at hf
      | some z =>
        simp only [h3] at hf
        by_cases hc : (plainR rs || flat z) = true
        case neg => rw [if_neg hc] at hf; cases hf
        rw [if_pos hc] at hf
        cases hf
        refine ⟨P, α, e, w, rs, _, R, h1, fun vs H1 α1 u1 R1 i1 => ?_⟩
        show spP n F (vs ++ []) H1 Q E
        rw [List.append_nil]
        have vd := vals_of R1 i1 h2
        have hl : ds.length = n := by rw [← Paired.len vd, Paired.len i1, hn.ln _ _ _ _ h1]
        by_cases hp : plainR rs = true
        · exact ⟨Msk P α1 e σ, ds, z, R1.mut, plain_dv hp i1 h2, hl, h3, fun v H2 sm hv => kk v H2 α1 (u1.trans (.of_same sm)) (R1.same sm) hv⟩
        · have hfl : flat z = true := by
            rcases Bool.or_eq_true_iff.mp hc with q | q
            · exact absurd q hp
            · exact q
          exact ⟨fun _ => False, ds, z, fun b h => h.elim, bots vd, hl, h3, fun v H2 sm hv => kk v H2 α1 (u1.trans (.of_same sm)) (R1.same sm) (Dv.flat (R1.same sm).mut z v hfl hv)⟩
theorem callD_step {F : List FA → Wd → Option (FA × Wd)} {n : Nat} (hn : ALen fs n) {E : XK} {σ : L2.St} {H : Hp} {Q : VK} (q : tD (xCallD F fs) σ H Q) : tCall (spD n F) [] E (tDA fs) σ H Q := by
  obtain ⟨P, α, e, w, r, w', R, hf, kk⟩ := q
  unfold xCallD at hf
  cases h1 : fs e w with
  | none => simp [h1] at hf
  | some p =>
    obtain ⟨rs, w1⟩ := p
    simp only [h1] at hf
    cases h2 : argOf rs with
    | none => simp [h2] at hf
    | some as =>
      simp only [h2] at hf
      cases h3 : F as w1 with
      | none => simp [h3] at hf
      | some z =>
        obtain ⟨z, w2⟩ := z
        simp only [h3] at hf
        cases hf
        refine ⟨P, α, e, w, rs, w1, R, h1, fun vs H1 α1 u1 R1 i1 => ?_⟩
        show spD n F (vs ++ []) H1 Q E
        rw [List.append_nil]
        have mE : ∀ b, (P b ∨ OwnAt e σ b) ∨ b ∈ α1 → Msk P α1 e σ b := fun b m => by
          rcases m with (m | m) | m
          · exact .inl m
          · exact .inr (.inr m)
          · exact .inr (.inl m)
        have i2 := arg_fs (P' := fun b => P b ∨ OwnAt e σ b) mE i1 h2
        have hl : as.length = n := by
          have := Paired.len i2
          rw [Paired.len i1, hn.ln _ _ _ _ h1] at this
          exact this.symm
        -- the callee may not touch this def's own lists
        have RC : Rel (fun b => P b ∨ OwnAt e σ b) α1 [] w1 [] H1 := ⟨rfl, R1.nd, fun b hb m => m.elim (R1.pa b hb) fun ⟨i, ds, q1, q2⟩ => (R1.oa i ds b q1 q2).1 hb, fun b m => m.elim (R1.pt b) fun o => R1.mut b (.inr (.inr o)), R1.al,
          fun n o a q1 q2 => (R1.ob n o a q1 q2).less fun b m => by
            rcases m with (m | m) | m | ⟨_, _, q, _⟩
            · exact .inl m
            · exact .inr (.inr m)
            · exact .inr (.inl m)
            · simp at q, fun i x h => by simp at h, fun i ds b h => by simp at h, fun i j ds es b h => by simp at h⟩
        refine ⟨_, α1, as, w1, z, _, RC, i2, hl, h3, fun v H2 α2 u2 R2 i3 => ?_⟩
        have RE : Rel P α2 e w' σ H2 := by
          refine ⟨R1.ln, R2.nd, fun b hb m => R2.pa b hb (.inl m), fun b m => R2.pt b (.inl m), R2.al, fun n o a q1 q2 => (R2.ob n o a q1 q2).less fun b m => ?_, fun i x h => ?_, fun i ds b q1 q2 => ⟨fun hb => R2.pa b hb (.inr ⟨i, ds, q1, q2⟩), (R1.oa i ds b q1 q2).2⟩, R1.od⟩
          · rcases m with m | m | m
            · exact .inl (.inl m)
            · exact .inr (.inl m)
            · exact .inl (.inr m)
          · obtain ⟨v, q1, q2⟩ := R1.sl i x h
            refine ⟨v, q1, ?_⟩
            cases x with
            | v d => exact Dv.upE (show Dv _ H1 v d from q2) u2
            | own ds =>
              obtain ⟨b, xs, e1, e2, e3, e4⟩ := q2
              exact ⟨b, xs, e1, u2.kp _ _ e2 (R1.oa i ds b h (by rw [q1, e1])).1, e3.upE u2, e4⟩
            | obj n => obtain ⟨a, q3, q4⟩ := q2; exact ⟨a, u2.get q3, q4⟩
            | scr K ns => exact ScrIs.up (show ScrIs _ H1 v K ns from q2) (fun b o q n => u2.kp b o q fun hb => n (.inr (.inl hb))) fun b m => Msk.up u2 m
        refine kk v H2 α2 (u1.trans u2) RE ?_
        have lm : ∀ b, Msk P α2 e σ b → (P b ∨ OwnAt e σ b) ∨ b ∈ α2 := fun b m => by
          rcases m with m | m | m
          · exact .inl (.inl m)
          · exact .inr m
          · exact .inl (.inr m)
        cases z with
        | val d => exact Dv.less (show Dv _ H2 v d from i3) lm
        | obj n => exact i3
        | scr K ns => exact ScrIs.up (show ScrIs _ H2 v K ns from i3) (fun _ _ q _ => q) fun b m => .inl (lm b m)
theorem d_callP {F : List PyData → Option PyData} (G : FnOk X.prog X.w X.K X.mg X.base CX0 k f fd ps (spP ps.length F)) (hr : Room k X.A) (hg : Gl X x) (hm : X.mg x = some (.ref f)) (hk : PySem.W.keepIn X.K (.ref f) = true) (hb : Binds X.K fd ps []) (ha : PA X (e :: es) (tDA fs)) (hn : ALen fs ps.length)
    (hdb : (x == ("__debug__" : Str)) = false := by decide) (he : starEach (e :: es) X.env = (false, eval e X.env) :: starEach es X.env := by rfl) (hpl : (backTo pos (starEach es X.env)).any (·.1) = false := by rfl) : PE X (.Call (.Name x p) (e :: es) [] pos) (tD (xCallP F fs)) :=
  (pe_call G hr hg hm hk hb .nil pass0 ha hdb he hpl).imp fun _ _ _ q => callP_step hn q
theorem d_callD {F : List FA → Wd → Option (FA × Wd)} (G : FnOk X.prog X.w X.K X.mg X.base CX0 k f fd ps (spD ps.length F)) (hr : Room k X.A) (hg : Gl X x) (hm : X.mg x = some (.ref f)) (hk : PySem.W.keepIn X.K (.ref f) = true) (hb : Binds X.K fd ps []) (ha : PA X (e :: es) (tDA fs)) (hn : ALen fs ps.length)
    (hdb : (x == ("__debug__" : Str)) = false := by decide) (he : starEach (e :: es) X.env = (false, eval e X.env) :: starEach es X.env := by rfl) (hpl : (backTo pos (starEach es X.env)).any (·.1) = false := by rfl) : PE X (.Call (.Name x p) (e :: es) [] pos) (tD (xCallD F fs)) :=
  (pe_call G hr hg hm hk hb .nil pass0 ha hdb he hpl).imp fun _ _ _ q => callD_step hn q
end
end DL
namespace DL
open PySem PySem.Spec PyProof.Rows L2

/-! ### pure operations -/
section
variable {X : Cx}
mutual
theorem lay_noDict : ∀ d : PyData, d.canLay0 = true → noDict d = true
  | .none, _ | .bool _, _ | .int _, _ | .str _, _ => by simp [noDict]
  | .list xs, h => by simp only [noDict]; exact lays_noDict xs (by simpa [PyData.canLay0] using h)
  | .tuple xs, h => by simp only [noDict]; exact lays_noDict xs (by simpa [PyData.canLay0] using h)
  | .dict _, h => by simp [PyData.canLay0] at h
theorem lays_noDict : ∀ ds : List PyData, PyData.canLayAll0 ds = true → noDict.noDictA ds = true
  | [], _ => by simp [noDict.noDictA]
  | d :: ds, h => by
    have h' : d.canLay0 = true ∧ PyData.canLayAll0 ds = true := by simpa [PyData.canLayAll0] using h
    simp [noDict.noDictA, lay_noDict d h'.1, lays_noDict ds h'.2]
end
theorem Dv0.reads {pins : List (Addr × Obj)} {σ : L2.St} {M : Addr → Prop} {H : Hp} {s : Shared} (I : Inv X pins σ H s) {d : PyData} {v : V} {u : Value} (f : noDict d = true) (h : Dv0 M H v d) (r : RelV v u) : ∃ as, Reads s.heap u d as := Dv.reads I d v u f h.bot r

/-! a list or tuple, whoever may change it -/
theorem Dv0.tup {M : Addr → Prop} {H : Hp} {v : V} {ds : List PyData} (h : Dv0 M H v (.tuple ds)) : ∃ a xs, v = .ref a ∧ ¬ M a ∧ Rd H a (.tup xs) ∧ DvA M H xs ds ∧ ds.length ≤ LIM := by
  rcases h with h | ⟨a, xs, es, _, e, _⟩
  · cases h with
    | atm q => cases q
    | tup n r l q => exact ⟨_, _, rfl, n, .inl r, q, l⟩
  · cases e
theorem Dv0.tupX {M : Addr → Prop} {H : Hp} {v : V} {ds : List PyData} (h : Dv0 M H v (.tuple ds)) : Dv M H v (.tuple ds) := by
  rcases h with h | ⟨a, xs, es, _, e, _⟩
  · exact h
  · cases e
theorem Dv0.lst {M : Addr → Prop} {H : Hp} {v : V} {ds : List PyData} (h : Dv0 M H v (.list ds)) : ∃ a xs, v = .ref a ∧ Rd H a (.lst xs) ∧ DvA M H xs ds ∧ ds.length ≤ LIM := by
  rcases h with h | ⟨a, xs, es, rfl, e, h1, h2, h3⟩
  · cases h with
    | atm q => cases q
    | lst n r l q => exact ⟨_, _, rfl, r, q, l⟩
  · cases e
    exact ⟨a, xs, rfl, .inl h1, h2, h3⟩
theorem Dv0.int {M : Addr → Prop} {H : Hp} {v : V} {i : Int} (h : Dv0 M H v (.int i)) : v = .int i := by
  rcases h with h | ⟨_, _, _, _, e, _⟩
  · exact int_of h
  · cases e
theorem Dv0.bl {M : Addr → Prop} {H : Hp} {v : V} {i : Bool} (h : Dv0 M H v (.bool i)) : v = .bl i := by
  rcases h with h | ⟨_, _, _, _, e, _⟩
  · exact bl_of h
  · cases e
theorem Dv0.none' {M : Addr → Prop} {H : Hp} {v : V} (h : Dv0 M H v .none) : v = .non := by
  rcases h with h | ⟨_, _, _, _, e, _⟩
  · cases h with | atm a => cases a; rfl
  · cases e
theorem Dv0.str {M : Addr → Prop} {H : Hp} {v : V} {i : Str} (h : Dv0 M H v (.str i)) : v = .str i := by
  rcases h with h | ⟨_, _, _, _, e, _⟩
  · cases h with | atm a => cases a; rfl
  · cases e
theorem new_tup {M : Addr → Prop} {H : Hp} {p : Addr} {xs : List V} {ds : List PyData} (hm : ∀ b, M b → Mut (H b)) (hp : H p = none) (dv : DvA M H xs ds) (hl : ds.length ≤ LIM) : Dv M (upd H p (.tup xs)) (.ref p) (.tuple ds) := .tup (fresh_mut hm hp) upd_same hl (dv.same (same_upd hp))
theorem new_lst {M : Addr → Prop} {H : Hp} {p : Addr} {xs : List V} {ds : List PyData} (hm : ∀ b, M b → Mut (H b)) (hp : H p = none) (dv : DvA M H xs ds) (hl : ds.length ≤ LIM) : Dv M (upd H p (.lst xs)) (.ref p) (.list ds) := .lst (fresh_mut hm hp) (.inl upd_same) hl (dv.same (same_upd hp))

/-! numbers -/
def gI2 (g : Int → Int → Int) : PyData → PyData → Option PyData
  | .int i, .int j => some (.int (g i j))
  | _, _ => none
def gI2c (c : Int → Int → Bool) (g : Int → Int → Int) : PyData → PyData → Option PyData
  | .int i, .int j => if c i j then some (.int (g i j)) else none
  | _, _ => none
def gC2 (g : Int → Int → Bool) : PyData → PyData → Option PyData
  | .int i, .int j => some (.bool (g i j))
  | _, _ => none
theorem p_I2 {g : Int → Int → Int} : Pure2 (rI0 fun i j => .int (g i j)) (gI2 g) := fun M H x y d e z Q hm hx hy hg k => by
  cases d <;> cases e <;> first | (cases hg; done) | skip
  rename_i i j
  cases hg
  exact ⟨i, j, hx.int, hy.int, k _ H (fun _ _ h => h) (.atm (.int _))⟩
theorem p_I2c {C : Int → Int → Prop} {c : Int → Int → Bool} {g : Int → Int → Int} (hc : ∀ i j, c i j = true → C i j) : Pure2 (rI C fun i j => .int (g i j)) (gI2c c g) := fun M H x y d e z Q hm hx hy hg k => by
  cases d <;> cases e <;> first | (cases hg; done) | skip
  rename_i i j
  unfold gI2c at hg
  by_cases h : c i j = true
  · simp only [h, if_true] at hg
    cases hg
    exact ⟨i, j, hx.int, hy.int, hc i j h, k _ H (fun _ _ h => h) (.atm (.int _))⟩
  · simp [h] at hg
theorem p_C2 {g : Int → Int → Bool} : Pure2 (rI0 fun i j => .bl (g i j)) (gC2 g) := fun M H x y d e z Q hm hx hy hg k => by
  cases d <;> cases e <;> first | (cases hg; done) | skip
  rename_i i j
  cases hg
  exact ⟨i, j, hx.int, hy.int, k _ H (fun _ _ h => h) (.atm (.bl _))⟩
def gLt := gC2 fun i j => decide (i < j)
def gLe := gC2 fun i j => decide (i ≤ j)
def gGt := gC2 fun i j => decide (j < i)
def gGe := gC2 fun i j => decide (j ≤ i)
def gSub := gI2 fun i j => i - j
def cMul (i j : Int) : Bool := (decide (-(2 ^ 64) < i) && decide (i < 2 ^ 64)) || (decide (-(2 ^ 64) < j) && decide (j < 2 ^ 64))
def gMul := gI2c cMul fun i j => i * j
def cMod (_ j : Int) : Bool := decide (j ≠ 0)
def gMod := gI2c cMod fun i j => i.fmod j
def cDiv (_ j : Int) : Bool := decide (j ≠ 0) && decide (j.natAbs < 1073741824)
def gDiv := gI2c cDiv fun i j => i.fdiv j
def cPow (i j : Int) : Bool := decide (0 ≤ j) && decide (j ≤ 1000000) && decide (i.natAbs < 2 ^ 64)
def gPow := gI2c cPow fun i j => i ^ j.toNat
theorem p_sub : Pure2 (rI0 fun i j => .int (i - j)) gSub := p_I2
theorem p_lt : Pure2 (rI0 fun i j => .bl (decide (i < j))) gLt := p_C2
theorem p_le : Pure2 (rI0 fun i j => .bl (decide (i ≤ j))) gLe := p_C2
theorem p_gt : Pure2 (rI0 fun i j => .bl (decide (j < i))) gGt := p_C2
theorem p_ge : Pure2 (rI0 fun i j => .bl (decide (j ≤ i))) gGe := p_C2
theorem p_mul : Pure2 (rI CMul fun i j => .int (i * j)) gMul := p_I2c fun i j h => by
  unfold cMul at h
  simp only [Bool.or_eq_true, Bool.and_eq_true, decide_eq_true_eq] at h
  exact h
theorem p_mod : Pure2 (rI (fun _ j => j ≠ 0) fun i j => .int (i.fmod j)) gMod := p_I2c fun i j h => of_decide_eq_true h
theorem p_div : Pure2 (rI CDivN fun i j => .int (i.fdiv j)) gDiv := p_I2c fun i j h => by
  unfold cDiv at h
  simp only [Bool.and_eq_true, decide_eq_true_eq] at h
  exact h
theorem p_pow : Pure2 (rI CPow fun i j => .int (i ^ j.toNat)) gPow := p_I2c fun i j h => by
  unfold cPow at h
  simp only [Bool.and_eq_true, decide_eq_true_eq] at h
  exact ⟨h.1.1, h.1.2, h.2⟩
def gNeg : PyData → Option PyData
  | .int i => some (.int (-i))
  | _ => none
theorem p_neg : Pure1 (rU fun i => .int (-i)) gNeg := fun M H x d z Q hm hx hg k => by
  cases d <;> first | (cases hg; done) | skip
  rename_i i
  cases hg
  exact ⟨i, hx.int, k _ H (fun _ _ h => h) (.atm (.int _))⟩

/-! + of numbers, lists, tuples -/
def rCatL : R2 := fun x y H Q => ∃ l b xs zs, x = .ref l ∧ y = .ref b ∧ Rd H l (.lst xs) ∧ Rd H b (.lst zs) ∧ xs.length + zs.length ≤ sizeLine ∧ ∀ p, H p = none → Q (.ref p) (upd H p (.lst (xs ++ zs)))
theorem op_catL : OpR X (binaryOp .Add) rCatL := by
  intro pins s σ H x y v u Q I rx ry h
  obtain ⟨l, b, xs, zs, rfl, rfl, hx, hz, hn, k⟩ := h
  cases rx
  cases ry
  obtain ⟨z1, i1, n1, r1, e1⟩ := hx.ok I.hok
  obtain ⟨z2, i2, n2, r2, e2⟩ := hz.ok I.hok
  have l1 := r1.length
  have l2 := r2.length
  refine PySem.P.add_list e1 e2 ?_ (by rw [List.size_toArray, List.size_toArray]; omega)
  rw [show i1.toArray ++ i2.toArray = (i1 ++ i2).toArray by simp]
  exact ⟨.ref _, _, I.lnew (t' := s.toks) (r1.append r2) (by rw [List.length_append]; omega), rfl, k _ I.fresh⟩
def rAddA (K : PySem.W.Frag) : R2 := fun x y H Q => (rI0 (fun i j => .int (i + j))) x y H Q ∨ (rCatA K x y H Q ∨ rCatL x y H Q)
theorem op_addA : OpR X (binaryOp .Add) (rAddA X.K) := OpR.or op_add (OpR.or op_catA op_catL)
def gAdd : PyData → PyData → Option PyData
  | .int i, .int j => some (.int (i + j))
  | .tuple xs, .tuple ys => if xs.length + ys.length ≤ LIM then some (.tuple (xs ++ ys)) else none
  | .list xs, .list ys => if xs.length + ys.length ≤ LIM then some (.list (xs ++ ys)) else none
  | _, _ => none
theorem p_add {K : PySem.W.Frag} : Pure2 (rAddA K) gAdd := fun M H x y d e z Q hm hx hy hg k => by
  cases d <;> cases e <;> first | (cases hg; done) | skip
  · rename_i i j
    cases hg
    exact .inl ⟨i, j, hx.int, hy.int, k _ H (fun _ _ h => h) (.atm (.int _))⟩
  · rename_i ds es
    unfold gAdd at hg
    by_cases hl : ds.length + es.length ≤ LIM
    case neg => simp [hl] at hg
    simp only [hl, if_true] at hg
    cases hg
    obtain ⟨a, xs, rfl, r1, q1, _⟩ := hx.lst
    obtain ⟨b, ys, rfl, r2, q2, _⟩ := hy.lst
    refine .inr (.inr ⟨a, b, xs, ys, rfl, rfl, r1, r2, by rw [q1.length, q2.length]; exact lim_le hl, fun p hp => k _ _ (same_upd hp) (new_lst hm hp (q1.append q2) (by rw [List.length_append]; exact hl))⟩)
  · rename_i ds es
    unfold gAdd at hg
    by_cases hl : ds.length + es.length ≤ LIM
    case neg => simp [hl] at hg
    simp only [hl, if_true] at hg
    cases hg
    obtain ⟨a, xs, rfl, n1, r1, q1, l1⟩ := hx.tup
    obtain ⟨b, ys, rfl, n2, r2, q2, l2⟩ := hy.tup
    have nil_of : ∀ {vs : List V} {fs : List PyData}, DvA M H vs fs → vs = [] → fs = [] := fun q e => by
      subst e
      cases q
      rfl
    refine .inr (.inl ⟨a, b, xs, ys, rfl, rfl, .inl r1, .inl r2, by rw [q1.length, q2.length]; exact lim_le hl, fun e => ?_, fun _ e => ?_, fun _ _ p hp => ?_⟩)
    · rw [nil_of q1 e] at k
      exact k _ H (fun _ _ h => h) hy.tupX
    · rw [nil_of q2 e] at k
      rw [List.append_nil] at k
      exact k _ H (fun _ _ h => h) hx.tupX
    · exact k _ _ (same_upd hp) (new_tup hm hp (q1.append q2) (by rw [List.length_append]; exact hl))

/-! == and in, at any depth -/
def rEqV : R2 := fun x y H Q => ∃ d e, Dv (fun _ => False) H x d ∧ Dv (fun _ => False) H y e ∧ SeqAt.shaped d = true ∧ SeqAt.shaped e = true ∧ Q (.bl (PyData.eqv d e)) H
def rNeV : R2 := fun x y H Q => ∃ d e, Dv (fun _ => False) H x d ∧ Dv (fun _ => False) H y e ∧ SeqAt.shaped d = true ∧ SeqAt.shaped e = true ∧ Q (.bl (!PyData.eqv d e)) H
theorem op_eqV (hu : X.A.units + 64 < cLine) : OpR X (compareOp .Eq) rEqV := by
  intro pins s σ H x y v u Q I rx ry h
  obtain ⟨d, e, hd, he, sd, se, q⟩ := h
  obtain ⟨as, r1⟩ := Dv.reads I d x v (lay_noDict d (SeqAt.canLay_of_shaped sd)) hd rx
  obtain ⟨bs, r2⟩ := Dv.reads I e y u (lay_noDict e (SeqAt.canLay_of_shaped se)) he ry
  exact SeqAt.compareEq_shaped r1 r2 sd se hu ⟨V.bl (PyData.eqv d e), H, I, rfl, q⟩
theorem op_neV (hu : X.A.units + 64 < cLine) : OpR X (compareOp .NotEq) rNeV := by
  intro pins s σ H x y v u Q I rx ry h
  obtain ⟨d, e, hd, he, sd, se, q⟩ := h
  obtain ⟨as, r1⟩ := Dv.reads I d x v (lay_noDict d (SeqAt.canLay_of_shaped sd)) hd rx
  obtain ⟨bs, r2⟩ := Dv.reads I e y u (lay_noDict e (SeqAt.canLay_of_shaped se)) he ry
  exact SeqAt.compareNe_shaped r1 r2 sd se hu ⟨V.bl (!PyData.eqv d e), H, I, rfl, q⟩
def gEq (d e : PyData) : Option PyData := if SeqAt.shaped d && SeqAt.shaped e then some (.bool (PyData.eqv d e)) else none
def gNe (d e : PyData) : Option PyData := if SeqAt.shaped d && SeqAt.shaped e then some (.bool (!PyData.eqv d e)) else none
theorem p_eq : Pure2 rEqV gEq := fun M H x y d e z Q hm hx hy hg k => by
  unfold gEq at hg
  by_cases h : (SeqAt.shaped d && SeqAt.shaped e) = true
  · rw [if_pos h] at hg
    cases hg
    obtain ⟨h1, h2⟩ := Bool.and_eq_true_iff.mp h
    exact ⟨d, e, hx.bot, hy.bot, h1, h2, k _ H (fun _ _ h => h) (.atm (.bl _))⟩
  · rw [if_neg h] at hg; cases hg
theorem p_ne : Pure2 rNeV gNe := fun M H x y d e z Q hm hx hy hg k => by
  unfold gNe at hg
  by_cases h : (SeqAt.shaped d && SeqAt.shaped e) = true
  · rw [if_pos h] at hg
    cases hg
    obtain ⟨h1, h2⟩ := Bool.and_eq_true_iff.mp h
    exact ⟨d, e, hx.bot, hy.bot, h1, h2, k _ H (fun _ _ h => h) (.atm (.bl _))⟩
  · rw [if_neg h] at hg; cases hg
def itemsOf : PyData → Option (List PyData)
  | .list ds => some ds
  | .tuple ds => some ds
  | _ => none
def rInV (neg : Bool) : R2 := fun x y H Q => ∃ d c ds, Dv (fun _ => False) H x d ∧ Dv (fun _ => False) H y c ∧ itemsOf c = some ds ∧ SeqAt.shaped d = true ∧ SeqAt.shaped c = true ∧ Q (.bl (if neg then !ds.any fun z => PyData.eqv z d else ds.any fun z => PyData.eqv z d)) H
theorem room_in {A : Around} {ds : List PyData} {d : PyData} (sd : SeqAt.shaped d = true) (hu : A.units + 66 < cLine) : A.units + 1 + min (PyData.depthAll ds) d.depth < cLine := by
  have h1 := SeqAt.depth_of_shaped sd
  have h2 : min (PyData.depthAll ds) d.depth ≤ d.depth := Nat.min_le_right _ _
  omega
theorem op_inV (hu : X.A.units + 66 < cLine) : OpR X (compareOp .In) (rInV false) := by
  intro pins s σ H x y v u Q I rx ry h
  obtain ⟨d, c, ds, hd, hc, hi, sd, sc, q⟩ := h
  obtain ⟨as, r1⟩ := Dv.reads I d x v (lay_noDict d (SeqAt.canLay_of_shaped sd)) hd rx
  obtain ⟨bs, r2⟩ := Dv.reads I c y u (lay_noDict c (SeqAt.canLay_of_shaped sc)) hc ry
  have lc := SeqAt.canLay_of_shaped sc
  cases c <;> first | (cases hi; done) | skip
  · cases hi
    exact SeqAt.in_list_reads r2 r1 (by simpa [PyData.canLay0] using lc) (SeqAt.canLay_of_shaped sd) (room_in sd hu) ⟨.bl _, H, I, rfl, q⟩
  · cases hi
    exact SeqAt.in_tuple_reads r2 r1 (by simpa [PyData.canLay0] using lc) (SeqAt.canLay_of_shaped sd) (room_in sd hu) ⟨.bl _, H, I, rfl, q⟩
theorem op_notInV (hu : X.A.units + 66 < cLine) : OpR X (compareOp .NotIn) (rInV true) := by
  intro pins s σ H x y v u Q I rx ry h
  obtain ⟨d, c, ds, hd, hc, hi, sd, sc, q⟩ := h
  obtain ⟨as, r1⟩ := Dv.reads I d x v (lay_noDict d (SeqAt.canLay_of_shaped sd)) hd rx
  obtain ⟨bs, r2⟩ := Dv.reads I c y u (lay_noDict c (SeqAt.canLay_of_shaped sc)) hc ry
  have lc := SeqAt.canLay_of_shaped sc
  cases c <;> first | (cases hi; done) | skip
  · cases hi
    exact SeqAt.notIn_list_reads r2 r1 (by simpa [PyData.canLay0] using lc) (SeqAt.canLay_of_shaped sd) (room_in sd hu) ⟨.bl _, H, I, rfl, q⟩
  · cases hi
    exact SeqAt.notIn_tuple_reads r2 r1 (by simpa [PyData.canLay0] using lc) (SeqAt.canLay_of_shaped sd) (room_in sd hu) ⟨.bl _, H, I, rfl, q⟩
def gIn (neg : Bool) (d c : PyData) : Option PyData := match itemsOf c with
  | some ds => if SeqAt.shaped d && SeqAt.shaped c then some (.bool (if neg then !ds.any fun z => PyData.eqv z d else ds.any fun z => PyData.eqv z d)) else none
  | none => none
theorem p_in {neg : Bool} : Pure2 (rInV neg) (gIn neg) := fun M H x y d e z Q hm hx hy hg k => by
  unfold gIn at hg
  cases h1 : itemsOf e with
  | none => simp [h1] at hg
  | some ds =>
    simp only [h1] at hg
    by_cases h : (SeqAt.shaped d && SeqAt.shaped e) = true
    · rw [if_pos h] at hg
      cases hg
      obtain ⟨h2, h3⟩ := Bool.and_eq_true_iff.mp h
      exact ⟨d, e, ds, hx.bot, hy.bot, h1, h2, h3, k _ H (fun _ _ h => h) (.atm (.bl _))⟩
    · rw [if_neg h] at hg; cases hg

/-! is None -/
def isNone : PyData → Bool
  | .none => true
  | _ => false
theorem non_iff {M : Addr → Prop} {H : Hp} {v : V} {d : PyData} (h : Dv0 M H v d) : decide (v = .non) = isNone d := by
  rcases h with h | ⟨a, xs, ds, rfl, rfl, _⟩
  · cases h with
    | atm a => cases a <;> rfl
    | _ => rfl
  · rfl
def gIsN (d e : PyData) : Option PyData := match e with
  | .none => some (.bool (isNone d))
  | _ => none
def gNotN (d e : PyData) : Option PyData := match e with
  | .none => some (.bool (!isNone d))
  | _ => none
theorem p_isN : Pure2 (fun x y H Q => y = .non ∧ Q (.bl (decide (x = .non))) H) gIsN := fun M H x y d e z Q hm hx hy hg k => by
  cases e <;> first | (cases hg; done) | skip
  cases hg
  rw [non_iff hx]
  exact ⟨hy.none', k _ H (fun _ _ h => h) (.atm (.bl _))⟩
theorem p_notN : Pure2 (fun x y H Q => y = .non ∧ Q (.bl (!decide (x = .non))) H) gNotN := fun M H x y d e z Q hm hx hy hg k => by
  cases e <;> first | (cases hg; done) | skip
  cases hg
  rw [non_iff hx]
  exact ⟨hy.none', k _ H (fun _ _ h => h) (.atm (.bl _))⟩

/-! places, slices -/
theorem atI_dv {M : Addr → Prop} {H : Hp} {xs : List V} {ds : List PyData} {i : Int} {d : PyData} (q : DvA M H xs ds) (h : atI ds i = some d) : ∃ v, atI xs i = some v ∧ Dv M H v d := by
  unfold atI at h ⊢
  rw [q.length]
  cases h1 : ixN ds.length i with
  | none => simp [h1] at h
  | some j =>
    rw [h1] at h
    exact q.get h
def gIx (d e : PyData) : Option PyData := match itemsOf d, e with
  | some ds, .int i => atI ds i
  | _, _ => none
def rIxA (K : PySem.W.Frag) : R2 := fun x y H Q => rIxL K x y H Q ∨ rIxT K x y H Q
theorem ix_A : IxR X (rIxA X.K) := ix_list.or ix_tup
theorem p_ix {K : PySem.W.Frag} : Pure2 (rIxA K) gIx := fun M H x y d e z Q hm hx hy hg k => by
  unfold gIx at hg
  cases d <;> cases e <;> first | (simp [itemsOf] at hg; done) | skip
  · rename_i ds i
    simp only [itemsOf] at hg
    obtain ⟨a, xs, rfl, r, q, _⟩ := hx.lst
    obtain ⟨v, h1, h2⟩ := atI_dv q hg
    exact .inl ⟨a, xs, i, v, rfl, hy.int, .inl r, h1, k _ H (fun _ _ h => h) h2⟩
  · rename_i ds i
    simp only [itemsOf] at hg
    obtain ⟨a, xs, rfl, n, r, q, _⟩ := hx.tup
    obtain ⟨v, h1, h2⟩ := atI_dv q hg
    exact .inr ⟨a, xs, i, v, rfl, hy.int, .inl r, h1, k _ H (fun _ _ h => h) h2⟩
def cutD (xs : List PyData) (lo hi : Option Int) : List PyData := (xs.drop (HT.sIx xs.length 0 lo)).take (HT.sIx xs.length xs.length hi - HT.sIx xs.length 0 lo)
theorem cutD_len (xs : List PyData) (lo hi : Option Int) : (cutD xs lo hi).length ≤ xs.length := by
  unfold cutD
  rw [List.length_take, List.length_drop]
  omega
theorem cut_dv {M : Addr → Prop} {H : Hp} {xs : List V} {ds : List PyData} (q : DvA M H xs ds) (lo hi : Option Int) : DvA M H (cutV xs lo hi) (cutD ds lo hi) := by
  unfold cutV cutD
  rw [q.length]
  exact (q.drop _).take _
theorem cut_all {ds : List PyData} {lo hi : Option Int} (h : HT.sIx ds.length 0 lo = 0 ∧ HT.sIx ds.length ds.length hi = ds.length) : cutD ds lo hi = ds := by
  unfold cutD
  rw [h.1, h.2]
  simp
/-- an end of a slice -/
abbrev O1 := DE → Wd → Option (Option Int × Wd)
def oNone : O1 := fun _ w => some (none, w)
def oSome (f : X1) : O1 := fun e w => match f e w with
  | some (.v (.int i), w1) => some (some i, w1)
  | _ => none
def tO (o : O1) : TO := fun σ H Q => ∃ (P : Addr → Prop) (α : List Addr) (e : DE) (w : Wd) (r : Option Int) (w' : Wd), Rel P α e w σ H ∧ o e w = some (r, w') ∧
  ∀ H' α', UpE α H α' H' → Rel P α' e w' σ H' → Q r H'
theorem _root_.L2.PO.imp {X : Cx} {e : Option Expr} {t t' : TO} (p : PO X e t) (h : ∀ σ H Q, t' σ H Q → t σ H Q) : PO X e t' := ⟨fun pins s σ H Q I q => p.run pins s σ H Q I (h σ H Q q)⟩
theorem do_none : PO X none (tO oNone) := po_none.imp fun σ H Q q => by
  obtain ⟨P, α, e, w, r, w', R, hf, k⟩ := q
  cases hf
  exact k H α (.refl α H) R
theorem do_some {x : Expr} {f : X1} (a : PE X x (tD f)) : PO X (some x) (tO (oSome f)) := (po_some a).imp fun σ H Q q => by
  obtain ⟨P, α, e, w, r, w', R, hf, k⟩ := q
  unfold oSome at hf
  cases h1 : f e w with
  | none => simp [h1] at hf
  | some p =>
    obtain ⟨ra, w1⟩ := p
    simp only [h1] at hf
    match ra, h1, hf with
    | .v (.int i), h1, hf =>
      cases hf
      exact ⟨P, α, e, w, _, _, R, h1, fun v H1 α1 u1 R1 i1 => ⟨i, int_of i1, k H1 α1 u1 R1⟩⟩
def xSl (f : X1) (lo hi : O1) : X1 := fun e w => match f e w with
  | some (r, w1) => match lo e w1 with
    | some (a, w2) => match hi e w2 with
      | some (b, w3) => match valOf e w3 r with
        | some (.list ds) => some (.v (.list (cutD ds a b)), w3)
        | some (.tuple ds) => some (.v (.tuple (cutD ds a b)), w3)
        | _ => none
      | none => none
    | none => none
  | none => none
def rSlB (K : PySem.W.Frag) : V → Option Int → Option Int → Hp → VK → Prop := fun x lo hi H Q => rSlL K x lo hi H Q ∨ rSlA K x lo hi H Q
theorem sl_B : SlR X (rSlB X.K) := SlR.or sl_list sl_tupA
end
end DL
namespace DL
open PySem PySem.Spec PyProof.Rows L2
section
variable {X : Cx}
theorem slice_step {K : PySem.W.Frag} {f : X1} {lo hi : O1} {σ : L2.St} {H : Hp} {Q : VK} (q : tD (xSl f lo hi) σ H Q) : tSl (rSlB K) (tD f) (tO lo) (tO hi) σ H Q := by
  obtain ⟨P, α, e, w, r, w', R, hf, k⟩ := q
  unfold xSl at hf
  cases h1 : f e w with
  | none => simp [h1] at hf
  | some p =>
    obtain ⟨ra, w1⟩ := p
    simp only [h1] at hf
    cases h2 : lo e w1 with
    | none => simp [h2] at hf
    | some p =>
      obtain ⟨a, w2⟩ := p
      simp only [h2] at hf
      cases h3 : hi e w2 with
      | none => simp [h3] at hf
      | some p =>
        obtain ⟨b, w3⟩ := p
        simp only [h3] at hf
        refine ⟨P, α, e, w, ra, w1, R, h1, fun v H1 α1 u1 R1 i1 => ⟨P, α1, e, w1, a, w2, R1, h2, fun H2 α2 u2 R2 => ⟨P, α2, e, w2, b, w3, R2, h3, fun H3 α3 u3 R3 => ?_⟩⟩⟩
        have u := (u1.trans u2).trans u3
        cases h4 : valOf e w3 ra with
        | none => simp [h4] at hf
        | some d =>
          have dv := ((i1.up u2).up u3).val R3 h4
          match d, h4, hf, dv with
          | .list ds, h4, hf, dv =>
            simp only [h4] at hf
            cases hf
            obtain ⟨c, xs, rfl, rd, q, l⟩ := dv.lst
            exact .inl ⟨c, xs, rfl, .inl rd, fun p hp => k _ _ α3 (u.trans (.of_same (same_upd hp))) (R3.same (same_upd hp)) (new_lst R3.mut hp (cut_dv q a b) (Nat.le_trans (cutD_len ds a b) l))⟩
          | .tuple ds, h4, hf, dv =>
            simp only [h4] at hf
            cases hf
            obtain ⟨c, xs, rfl, n, rd, q, l⟩ := dv.tup
            refine .inr ⟨c, xs, rfl, .inl rd, fun hw => ?_, fun _ p hp => k _ _ α3 (u.trans (.of_same (same_upd hp))) (R3.same (same_upd hp)) (new_tup R3.mut hp (cut_dv q a b) (Nat.le_trans (cutD_len ds a b) l))⟩
            rw [q.length] at hw
            rw [cut_all hw] at k
            exact k _ H3 α3 u R3 dv.tupX
          | .none, h4, hf, _ => simp [h4] at hf
          | .bool _, h4, hf, _ => simp [h4] at hf
          | .int _, h4, hf, _ => simp [h4] at hf
          | .str _, h4, hf, _ => simp [h4] at hf
          | .dict _, h4, hf, _ => simp [h4] at hf
theorem d_slice {e : Expr} {lo hi : Option Expr} {pos p2 : Pos} {f : X1} {a b : O1} (he : PE X e (tD f)) (hl : PO X lo (tO a)) (hu : PO X hi (tO b)) : PE X (.Subscript e (.Slice lo hi none p2) pos) (tD (xSl f a b)) := (pe_slice sl_B he hl hu).imp fun _ _ _ q => slice_step q

/-! calls of built-ins -/
def gLen : List PyData → Option PyData
  | [.list ds] => some (.int ds.length)
  | [.tuple ds] => some (.int ds.length)
  | _ => none
theorem one {A B : Type} {F : A → B → Prop} {xs : List A} {b : B} (h : Paired F xs [b]) : ∃ a, xs = [a] ∧ F a b := by
  cases h with
  | cons a t => cases t; exact ⟨_, rfl, a⟩
theorem two {A B : Type} {F : A → B → Prop} {xs : List A} {b c : B} (h : Paired F xs [b, c]) : ∃ a a', xs = [a, a'] ∧ F a b ∧ F a' c := by
  cases h with
  | cons a t =>
    cases t with
    | cons a' t => cases t; exact ⟨_, _, rfl, a, a'⟩
theorem p_len {K : PySem.W.Frag} : PureN (fun xs H Q => ∃ p ys, xs = [.ref p] ∧ (SqL K H p ys ∨ SqT K H p ys) ∧ Q (.int ys.length) H) gLen := fun M H xs ds z Q hm hx hg k => by
  match ds, hx, hg with
  | [.list es], hx, hg =>
    cases hg
    obtain ⟨v, rfl, dv⟩ := one hx
    obtain ⟨a, ys, rfl, rd, q, _⟩ := dv.lst
    exact ⟨a, ys, rfl, .inl (.inl rd), by rw [q.length]; exact k _ H (fun _ _ h => h) (.atm (.int _))⟩
  | [.tuple es], hx, hg =>
    cases hg
    obtain ⟨v, rfl, dv⟩ := one hx
    obtain ⟨a, ys, rfl, _, rd, q, _⟩ := dv.tup
    exact ⟨a, ys, rfl, .inr (.inl rd), by rw [q.length]; exact k _ H (fun _ _ h => h) (.atm (.int _))⟩
def gTuple : List PyData → Option PyData
  | [.list ds] => some (.tuple ds)
  | [.tuple ds] => some (.tuple ds)
  | _ => none
theorem p_tuple {K : PySem.W.Frag} : PureN (fun xs H Q => ∃ p ys, xs = [.ref p] ∧ ((SqL K H p ys ∧ ∀ l, H l = none → Q (.ref l) (upd H l (.tup ys))) ∨ (SqT K H p ys ∧ Q (.ref p) H))) gTuple := fun M H xs ds z Q hm hx hg k => by
  match ds, hx, hg with
  | [.list es], hx, hg =>
    cases hg
    obtain ⟨v, rfl, dv⟩ := one hx
    obtain ⟨a, ys, rfl, rd, q, l⟩ := dv.lst
    exact ⟨a, ys, rfl, .inl ⟨.inl rd, fun p hp => k _ _ (same_upd hp) (new_tup hm hp q l)⟩⟩
  | [.tuple es], hx, hg =>
    cases hg
    obtain ⟨v, rfl, dv⟩ := one hx
    obtain ⟨a, ys, rfl, n, rd, q, l⟩ := dv.tup
    exact ⟨a, ys, rfl, .inr ⟨.inl rd, k _ H (fun _ _ h => h) dv.tupX⟩⟩
def gList : List PyData → Option PyData
  | [.list ds] => some (.list ds)
  | [.tuple ds] => some (.list ds)
  | _ => none
theorem p_list {K : PySem.W.Frag} : PureN (fun xs H Q => ∃ p ys, xs = [.ref p] ∧ (SqL K H p ys ∨ SqT K H p ys) ∧ ∀ l, H l = none → Q (.ref l) (upd H l (.lst ys))) gList := fun M H xs ds z Q hm hx hg k => by
  match ds, hx, hg with
  | [.list es], hx, hg =>
    cases hg
    obtain ⟨v, rfl, dv⟩ := one hx
    obtain ⟨a, ys, rfl, rd, q, l⟩ := dv.lst
    exact ⟨a, ys, rfl, .inl (.inl rd), fun p hp => k _ _ (same_upd hp) (new_lst hm hp q l)⟩
  | [.tuple es], hx, hg =>
    cases hg
    obtain ⟨v, rfl, dv⟩ := one hx
    obtain ⟨a, ys, rfl, n, rd, q, l⟩ := dv.tup
    exact ⟨a, ys, rfl, .inr (.inl rd), fun p hp => k _ _ (same_upd hp) (new_lst hm hp q l)⟩
/-- a list of truth values -/
def boolsOf : List PyData → Option (List Bool)
  | [] => some []
  | .bool b :: r => (boolsOf r).map (b :: ·)
  | _ :: _ => none
theorem bools_dv {M : Addr → Prop} {H : Hp} : ∀ {xs : List V} {ds : List PyData} {bs : List Bool}, DvA M H xs ds → boolsOf ds = some bs → xs = bs.map V.bl
  | _, _, _, .nil, h => by cases h; rfl
  | _, .bool b :: r, bs, .cons a t, h => by
    cases q : boolsOf r with
    | none => simp [boolsOf, q] at h
    | some cs =>
      simp only [boolsOf, q, Option.map_some] at h
      cases h
      rw [bools_dv t q, bl_of a]
      rfl
  | _, .none :: _, _, .cons _ _, h => by simp [boolsOf] at h
  | _, .int _ :: _, _, .cons _ _, h => by simp [boolsOf] at h
  | _, .str _ :: _, _, .cons _ _, h => by simp [boolsOf] at h
  | _, .list _ :: _, _, .cons _ _, h => by simp [boolsOf] at h
  | _, .tuple _ :: _, _, .cons _ _, h => by simp [boolsOf] at h
  | _, .dict _ :: _, _, .cons _ _, h => by simp [boolsOf] at h
def gAny : List PyData → Option PyData
  | [.list ds] => (boolsOf ds).map fun bs => .bool (bs.any id)
  | _ => none
def gAll : List PyData → Option PyData
  | [.list ds] => (boolsOf ds).map fun bs => .bool (bs.all id)
  | _ => none
theorem p_any {K : PySem.W.Frag} : PureN (rAny K) gAny := fun M H xs ds z Q hm hx hg k => by
  match ds, hx, hg with
  | [.list es], hx, hg =>
    obtain ⟨v, rfl, dv⟩ := one hx
    obtain ⟨a, ys, rfl, rd, q, _⟩ := dv.lst
    cases hb : boolsOf es with
    | none => simp [gAny, hb] at hg
    | some bs =>
      simp only [gAny, hb, Option.map_some] at hg
      cases hg
      exact ⟨a, bs, rfl, .inl (by rw [← bools_dv q hb]; exact rd), k _ H (fun _ _ h => h) (.atm (.bl _))⟩
theorem p_all {K : PySem.W.Frag} : PureN (rAll K) gAll := fun M H xs ds z Q hm hx hg k => by
  match ds, hx, hg with
  | [.list es], hx, hg =>
    obtain ⟨v, rfl, dv⟩ := one hx
    obtain ⟨a, ys, rfl, rd, q, _⟩ := dv.lst
    cases hb : boolsOf es with
    | none => simp [gAll, hb] at hg
    | some bs =>
      simp only [gAll, hb, Option.map_some] at hg
      cases hg
      exact ⟨a, bs, rfl, .inl (by rw [← bools_dv q hb]; exact rd), k _ H (fun _ _ h => h) (.atm (.bl _))⟩
def gMin2 : List PyData → Option PyData
  | [.int i, .int j] => some (.int (if j < i then j else i))
  | _ => none
def gMax2 : List PyData → Option PyData
  | [.int i, .int j] => some (.int (if j > i then j else i))
  | _ => none
theorem p_min2 : PureN (fun xs H Q => ∃ i j, xs = [.int i, .int j] ∧ Q (.int (if j < i then j else i)) H) gMin2 := fun M H xs ds z Q hm hx hg k => by
  match ds, hx, hg with
  | [.int i, .int j], hx, hg =>
    cases hg
    obtain ⟨v, u, rfl, a, b⟩ := two hx
    exact ⟨i, j, by rw [a.int, b.int], k _ H (fun _ _ h => h) (.atm (.int _))⟩
theorem p_max2 : PureN (fun xs H Q => ∃ i j, xs = [.int i, .int j] ∧ Q (.int (if j > i then j else i)) H) gMax2 := fun M H xs ds z Q hm hx hg k => by
  match ds, hx, hg with
  | [.int i, .int j], hx, hg =>
    cases hg
    obtain ⟨v, u, rfl, a, b⟩ := two hx
    exact ⟨i, j, by rw [a.int, b.int], k _ H (fun _ _ h => h) (.atm (.int _))⟩
def gAbs : List PyData → Option PyData
  | [.int i] => some (.int (if i < 0 then -i else i))
  | _ => none
theorem p_abs : PureN (fun xs H Q => ∃ i, xs = [.int i] ∧ Q (.int (if i < 0 then -i else i)) H) gAbs := fun M H xs ds z Q hm hx hg k => by
  match ds, hx, hg with
  | [.int i], hx, hg =>
    cases hg
    obtain ⟨v, rfl, a⟩ := one hx
    exact ⟨i, by rw [a.int], k _ H (fun _ _ h => h) (.atm (.int _))⟩
def gIntOf : List PyData → Option PyData
  | [.int i] => some (.int i)
  | [.bool b] => some (.int (if b then 1 else 0))
  | _ => none
theorem p_intOf : PureN (fun xs H Q => (∃ i, xs = [.int i] ∧ Q (.int i) H) ∨ ∃ k, xs = [.bl k] ∧ Q (.int (if k then 1 else 0)) H) gIntOf := fun M H xs ds z Q hm hx hg k => by
  match ds, hx, hg with
  | [.int i], hx, hg =>
    cases hg
    obtain ⟨v, rfl, a⟩ := one hx
    exact .inl ⟨i, by rw [a.int], k _ H (fun _ _ h => h) (.atm (.int _))⟩
  | [.bool b], hx, hg =>
    cases hg
    obtain ⟨v, rfl, a⟩ := one hx
    exact .inr ⟨b, by rw [a.bl], k _ H (fun _ _ h => h) (.atm (.int _))⟩

/-! ### repr -/
theorem hasDict_no : ∀ d : PyData, noDict d = true → d.hasDict = false
  | .none, _ | .bool _, _ | .int _, _ | .str _, _ => by simp [PyData.hasDict]
  | .list xs, h => by simp only [PyData.hasDict]; exact hasDicts_no xs (by simpa [noDict] using h)
  | .tuple xs, h => by simp only [PyData.hasDict]; exact hasDicts_no xs (by simpa [noDict] using h)
  | .dict _, h => by simp [noDict] at h
where hasDicts_no : ∀ ds : List PyData, noDict.noDictA ds = true → PyData.hasDictAll ds = false
  | [], _ => by simp [PyData.hasDictAll]
  | d :: ds, h => by
    have h' : noDict d = true ∧ noDict.noDictA ds = true := by simpa [noDict.noDictA] using h
    simp [PyData.hasDictAll, hasDict_no d h'.1, hasDicts_no ds h'.2]
def repOk (d : PyData) : Bool := noDict d && d.showable && decide (d.depth ≤ 64) && decide (d.shown.length ≤ sizeLine)
def rRepr : List V → Hp → VK → Prop := fun xs H Q => ∃ v d, xs = [v] ∧ Dv (fun _ => False) H v d ∧ repOk d = true ∧ Q (.str d.shown) H
theorem call_reprD (hG : X.A.guards = some []) (hu : X.A.units + 100 < cLine) : CallR X (.builtin "repr") rRepr := by
  intro pins s σ H xs us Q I r h
  obtain ⟨v, d, rfl, hv, ok, q⟩ := h
  unfold repOk at ok
  simp only [Bool.and_eq_true, decide_eq_true_eq] at ok
  obtain ⟨⟨⟨nd, sh⟩, dp⟩, sz⟩ := ok
  obtain ⟨u, rfl, ru⟩ := vals1 r
  have byRef : ∀ a, v = .ref a → wpAny (model X.prog X.w) X.A (call (.builtin "repr") [u]) (EP X pins σ Q) X.xe s := fun a e => by
    subst e
    cases ru
    obtain ⟨as, rd⟩ := Dv.reads I d _ _ nd hv rfl
    exact repr_of_reads' rd sh (fun z => by rw [hasDict_no d nd] at z; cases z) hG (by omega) (fun _ _ z => z) (fun h' u tk k => ⟨.str d.shown, H, I.kept (t' := tk) k, ⟨u, rfl⟩, q⟩) sz
  cases hv with
  | lst _ _ _ _ => exact byRef _ rfl
  | tup _ _ _ _ => exact byRef _ rfl
  | dct _ _ _ _ => exact byRef _ rfl
  | dcm _ _ _ _ _ => exact byRef _ rfl
  | atm a =>
    cases a with
    | non =>
      cases ru
      simp only [PyData.shown] at q
      exact PySem.P.repr_of_none ⟨.str _, H, I.tok _, ⟨_, rfl⟩, q⟩
    | bl b =>
      cases ru
      simp only [PyData.shown] at q
      exact PySem.P.repr_of_bool ⟨.str _, H, I.tok _, ⟨_, rfl⟩, q⟩
    | int i =>
      obtain ⟨t, rfl⟩ := ru
      simp only [PyData.shown] at q
      exact PySem.P.repr_of_int (by simpa [PyData.showable] using sh) ⟨.str _, H, I.tok _, ⟨_, rfl⟩, q⟩
    | str x =>
      obtain ⟨t, rfl⟩ := ru
      simp only [PyData.shown] at q sz
      exact PySem.P.repr_of_str ⟨.str _, H, I.tok _, ⟨_, rfl⟩, q⟩ sz
def gRepr : List PyData → Option PyData
  | [d] => if repOk d then some (.str d.shown) else none
  | _ => none
theorem p_repr : PureN rRepr gRepr := fun M H xs ds z Q hm hx hg k => by
  match ds, hx, hg with
  | [d], hx, hg =>
    obtain ⟨v, rfl, dv⟩ := one hx
    by_cases h : repOk d = true
    · simp only [gRepr, h, if_true] at hg
      cases hg
      exact ⟨v, d, rfl, dv.bot, h, k _ H (fun _ _ h => h) (.atm (.str _))⟩
    · simp [gRepr, h] at hg
end
end DL
namespace DL
open PySem PySem.Spec PyProof.Rows L2
/-! ### a def that is called while no text is being made of anything: the law itself -/
structure FnG (P : Program) (w : World) (K : PySem.W.Frag) (mg : Str → Option Value) (base : Heap) (k : Nat) (f : Addr) (fd : FuncData) (ps : List Str) (sp : Sp) : Prop where
  len : ∀ vs H Q E, sp vs H Q E → vs.length = ps.length
  run : ∀ (A : Around) (out : List Env) (s : Shared) (H : Hp) (ar : Args) (us : List Value) (vs : List V) (Q : VK) (E : XK), Room k A → A.guards = some [] → Env0 P w K mg base A out s H → BindsTo s fd ar (ps.zip us) → Vals vs us → sp vs H Q E →
    codeAny (model P w) A (.call (.ref f) ar) (CR CX0 out P w H s Q E) s
section
variable {P : Program} {w : World} {K : PySem.W.Frag} {mg : Str → Option Value} {base : Heap}
theorem fun_G {x qual : Str} {st : Stmt} {f : Addr} {fd : FuncData} {N ps : List Str} {k : Nat} {sp : Sp} (F : Fun K x qual st f fd) (S : FnScope N ps (defScope st)) (len : ∀ vs H Q E, sp vs H Q E → vs.length = ps.length)
    (hb : ∀ (cdv : Value) (A : Around) (out : List Env) (s : Shared) (H : Hp) (vs : List V) (Q : VK) (E : XK), A.guards = some [] → Room k (A.deeper (envOfC qual (defScope st) s.heap.objs.size f cdv)) → sp vs H Q E →
      ∃ t, PSs (cxOf CX0 P w K mg base N qual (defScope st) f cdv A out s H E).nox (defBody st) t ∧ t { nx := fun _ H' => Q .non H', rt := Q } (L2.start N vs) H) : FnG P w K mg base (k + 1) f fd ps sp := by
  obtain ⟨c1, c2, c3, c4, c5, c6, cdv, c8, c9, rfl, look, coded⟩ := F.ex
  refine ⟨len, fun A out s H ar us vs Q E room gd en bd rv pr => ?_⟩
  have vl := len _ _ _ _ pr
  have stand : ∀ b o, base.get? b = some o → s.heap.get? b = some o := fun b o q => (en.bs b o q).1
  have KX : K.In s.heap := en.mod.kin.keeps stand
  have nl : s.heap.NoLimit := en.mod.nolimit.keeps stand
  have kinds : ∀ y ∈ ps.zip us, (defScope st).names.lookup y.1 = some .local ∨
      ((defScope st).names.lookup y.1 = some .cell ∧ ((cellsFrom (s.heap.objs.size + 1) (defScope st).names []).lookup y.1).isSome = true) := by
    rintro ⟨n, v⟩ hy
    rcases S.par n (List.of_mem_zip hy).1 with z | z
    · exact .inl z
    · exact .inr ⟨z, PySem.W.cellsFrom_some _ _ _ (.inl z)⟩
  refine codeAny_call_function room.depth (KX _ _ look) rfl S.co S.gen rfl (PySem.W.codeRec_of KX coded) (bd _ _ _ _ ?_)
  refine wpAny_newFunctionEnv_cells S.kind kinds fun ev he s1 ic => ?_
  subst he
  refine ⟨nl.keeps ic.toInCall.keep, codeAny_func ?_⟩
  obtain ⟨t, ht, hq⟩ := hb cdv A out s H vs Q E gd (room.deeper _) pr
  have J : Inv (cxOf CX0 P w K mg base N qual (defScope st) f cdv A out s H E) [] (L2.start N vs) H s1 := inv_start S room.hd en vl rv ic
  refine wpAny_mono (ht.nox.run [] s1 (L2.start N vs) H _ J hq) (fun fl s' hs => ?_) fun _ _ z => z
  cases fl with
  | ret u =>
    obtain ⟨v, σ', H', I, r, q⟩ := hs
    exact ⟨v, H', I.os, I.bare, I.base, I.hok, r, q⟩
  | next =>
    obtain ⟨σ', H', I, q⟩ := hs
    exact ⟨.non, H', I.os, I.bare, I.base, I.hok, rfl, q⟩
  | brk => exact hs.elim fun _ z => z.elim fun _ z => z.2.elim
  | cont => exact hs.elim fun _ z => z.elim fun _ z => z.2.elim
/-- from the head: the law is called at the heap behind the top -/
theorem call_G {k : Nat} {fa a : Addr} {fd : FuncData} {x : Str} {sp : Sp} {mb : Str → Option Value} {s : Shared} {vs : List Value} {ns : List Int} (KX : K.In s.heap) (gl : s.heap.Ns mainGlobals mg) (bl : s.heap.Ns builtinsNs mb) (bb : ∀ x : Str, x ≠ "__name__" → mb x = bootBuiltins x)
    (nl : s.heap.NoLimit) (hg : s.gens = #[]) (ha : s.heap.get? a = some { cls := .type "list", data := .seq vs.toArray }) (hi : IntsAre vs ns) (hl : ns.length ≤ sizeLine) (hr : Room k callerA)
    (F : ∀ base : Heap, K.In base → base.Ns mainGlobals mg → FnG P w K mg base k fa fd [x] sp) (hb : ∀ (s : Shared) (u : Value), BindsTo s fd ⟨[u], []⟩ [(x, u)])
    (hsp : ∀ H : Hp, (∀ b, ¬ Mut (H b)) → ((∃ o, H a = some (.frz o (.lst (ns.map V.int)))) ∨ SqL K (fun _ => none) a (ns.map V.int)) → sp [.ref a] H (fun v _ => v = .bl true) fun _ _ _ => False) :
    codeAny (model P w) callerA (.call (.ref fa) ⟨[.ref a], []⟩) (fun r s' => r = .ok (.ret (.bool true)) ∧ OldK s.heap s'.heap ∧ s'.os = s.os ∧ AllBare s'.gens) s := by
  have rv := vals_ints hi
  have lv := hi.length
  have go : ∀ H : Hp, (∀ b u, H b = some u → b = a ∧ u = .frz { cls := .type "list", data := .seq vs.toArray } (.lst (ns.map V.int)) ∧ K.lookup a = none) → ((∃ o, H a = some (.frz o (.lst (ns.map V.int)))) ∨ SqL K (fun _ => none) a (ns.map V.int)) →
      codeAny (model P w) callerA (.call (.ref fa) ⟨[.ref a], []⟩) (fun r s' => r = .ok (.ret (.bool true)) ∧ OldK s.heap s'.heap ∧ s'.os = s.os ∧ AllBare s'.gens) s := by
    intro H only sq
    have free : ∀ b, b ≠ a → H b = none := fun b n => by
      cases q : H b with
      | none => rfl
      | some u => exact absurd (only b u q).1 n
    have hold : HOk P w H s.heap := fun b u q => by
      obtain ⟨rfl, rfl, _⟩ := only b u q
      exact ⟨ha, show (ns.map V.int).length ≤ sizeLine from (List.length_map ..).symm ▸ hl, vs, _, rv, ha⟩
    have inBase : ∀ {b : Addr} {o : Obj}, s.heap.get? b = some o → H b = none → (hidT s.heap H).get? b = some o := hidT_get
    have dictFree : ∀ {b : Addr} {m : Str → Option Value}, s.heap.Ns b m → (hidT s.heap H).Ns b m := fun {b m} n => by
      obtain ⟨o, es, ep, e, d, r⟩ := n
      refine ⟨o, es, ep, inBase e (free b fun z => ?_), d, r⟩
      rw [z, ha] at e
      cases e
      cases d
    have KB : K.In (hidT s.heap H) := fun b o e => inBase (KX b o e) (by
      cases q : H b with
      | none => rfl
      | some u =>
        obtain ⟨rfl, _, z⟩ := only b u q
        rw [z] at e
        cases e)
    have MB : Mod K mg (hidT s.heap H) := ⟨KB, dictFree gl, ⟨mb, dictFree bl, bb⟩, let ⟨mc, h1, h2⟩ := nl; ⟨mc, dictFree h1, h2⟩⟩
    have en : Env0 P w K mg (hidT s.heap H) callerA [] s H := ⟨rfl, MB, fun _ _ e => of_hidT e, Nat.le_of_eq (hidT_size _ _), trivial, fun _ z => absurd z (List.not_mem_nil), hold, .of_eq hg⟩
    have nomut : ∀ b, ¬ Mut (H b) := fun b m => by
      obtain ⟨u, q⟩ := mut_some m
      rw [q] at m
      obtain ⟨_, rfl, _⟩ := only b u q
      exact m
    refine codeAny_mono ((F _ KB (dictFree gl)).run callerA [] s H ⟨[.ref a], []⟩ [.ref a] [.ref a] _ _ hr rfl en (hb s (.ref a)) (.cons rfl .nil) (hsp H nomut sq)) fun r s' h => ?_
    cases r with
    | error e => exact False.elim h
    | ok fl =>
      cases fl with
      | ret u =>
        obtain ⟨v, H', os, bare, un, ok', rv', q⟩ := h
        obtain rfl : v = .bl true := q
        obtain rfl : u = Value.bool true := rv'
        refine ⟨rfl, OldK.of_keep ?_, os, bare⟩
        intro b o e
        cases q : H b with
        | none => exact un.keep b o e q (fun z => absurd z (List.not_mem_nil)) (fun z => absurd z (List.not_mem_nil))
        | some z =>
          obtain ⟨rfl, rfl, _⟩ := only b z q
          have e2 := (ok' b _ (un.frzs b _ _ q)).1
          rw [ha] at e
          rw [e2]
          exact e
      | next => exact False.elim h
      | brk => exact False.elim h
      | cont => exact False.elim h
  cases hk : K.lookup a with
  | none =>
    refine go (fun b => if b = a then some (.frz { cls := .type "list", data := .seq vs.toArray } (.lst (ns.map V.int))) else none) (fun b u q => ?_) (.inl ⟨_, if_pos rfl⟩)
    by_cases hb : b = a
    · have q' := (if_pos hb).symm.trans q
      cases q'
      exact ⟨hb, rfl, hk⟩
    · have q' := (if_neg hb).symm.trans q
      cases q'
  | some o =>
    have e := KX a o hk
    rw [ha] at e
    cases e
    exact go (fun _ => none) (fun b u q => by cases q) (.inr (.inr ⟨_, vs.toArray, _, hk, rfl, rfl, rfl, by rw [List.size_toArray, lv]; exact hl, by simpa using rv⟩))
end
/-- the end of a law's row -/
theorem walk_G {l : PySem.W.OpenLaw} {k : Nat} {q : Program} {loose : List Str} {XP : (Str → Option Value) → Heap → Prop} {YP : World → Heap → Prop} {d : DefRec} {K : Params → PySem.W.Frag} {sp : PySem.W.Frag → Sp} {x : Str}
    (hn : l.most = some 63) (hdf : d.params.defaults = []) (hr : Room k callerA) (hY : ∀ (w : World) (h : Heap), YP w h → (K w.params).In h)
    (F : ∀ (w : World) (mg : Str → Option Value) (fa : Addr) (h : Heap), (K w.params).In h → h.Ns mainGlobals mg → mg d.name = some (.ref fa) →
      ∃ fd : FuncData, (∀ (s : Shared) (u : Value), BindsTo s fd ⟨[u], []⟩ [(x, u)]) ∧ ∀ base : Heap, (K w.params).In base → base.Ns mainGlobals mg → FnG l.prog w (K w.params) mg base k fa fd [x] (sp (K w.params)))
    (hsp : ∀ (K : PySem.W.Frag) (H : Hp) (a : Addr) (ns : List Int), ns.length ≤ 63 → (∀ b, ¬ Mut (H b)) → ((∃ o, H a = some (.frz o (.lst (ns.map V.int)))) ∨ SqL K (fun _ => none) a (ns.map V.int)) → sp K [.ref a] H (fun v _ => v = .bl true) fun _ _ _ => False) :
    PySem.W.WalkO q loose XP YP l.row.toRowW d [] (fun f vs => PySem.call f vs) := by
  refine Att.attach_call hn hdf fun w s₀ s mg mb fa o pm cd doc a vs ns G Y _ _ _ gm ho hi hl hg => ?_
  obtain ⟨fd, hb, hF⟩ := F w mg fa _ (hY w _ Y) G.T.g gm
  exact call_G (hY w _ Y) G.T.g G.T.b G.T.builtins G.T.nolimit hg ho hi (Nat.le_trans hl (by decide)) hr hF hb fun H h1 h2 => hsp (K w.params) H a ns hl h1 h2

/-! ### the law's body, over its script -/
def fnL (K : PySem.W.Frag) (n : Nat) (body : S1) (ns : List Int) : Prop := ∃ w', fnD n body [.scr K ns] [] = some (.val (.bool true), w')
def spL (n : Nat) (body : S1) (K : PySem.W.Frag) : Sp := fun vs H Q _ => ∃ (a : Addr) (ns : List Int), vs = [.ref a] ∧ ns.length ≤ 63 ∧ ((∃ o, H a = some (.frz o (.lst (ns.map V.int)))) ∨ SqL K (fun _ => none) a (ns.map V.int)) ∧ (∀ b, ¬ Mut (H b)) ∧ fnL K n body ns ∧ ∀ H', Q (.bl true) H'
theorem body_L {K : PySem.W.Frag} {N : List Str} {body : S1} (hn : 1 ≤ N.length) {vs : List V} {H : Hp} {Q : VK} {E : XK} (h : spL N.length body K vs H Q E) : tS body { nx := fun _ H' => Q .non H', rt := Q } (L2.start N vs) H := by
  obtain ⟨a, ns, rfl, hl, sq, nm, ⟨w', hf⟩, k⟩ := h
  refine body_D (n := 1) hn (E := E) ⟨fun _ => False, [], [.scr K ns], [], _, w', rel_pure fun b z => z.elim, .cons ?_ .nil, rfl, hf, fun v H' α' u R i => ?_⟩
  · refine ⟨hl, a, rfl, ?_⟩
    rcases sq with ⟨o, q⟩ | q
    · exact .inl ⟨fun z => by rcases z with z | z; exact z; simp at z, .inr ⟨o, q⟩⟩
    · exact .inr q
  · rw [bl_of (show Dv _ H' v (.bool true) from i)]
    exact k H'
theorem fn_L {P : Program} {w : World} {K : PySem.W.Frag} {mg : Str → Option Value} {base : Heap} {x qual : Str} {st : Stmt} {f : Addr} {fd : FuncData} {N : List Str} {p : Str} {k : Nat} {body : S1} (F : Fun K x qual st f fd) (S : FnScope N [p] (defScope st))
    (h : ∀ (cdv : Value) (A : Around) (out : List Env) (s : Shared) (H : Hp) (E : XK), A.guards = some [] → Room k (A.deeper (envOfC qual (defScope st) s.heap.objs.size f cdv)) → PSs (cxOf CX0 P w K mg base N qual (defScope st) f cdv A out s H E).nox (defBody st) (tS body)) :
    FnG P w K mg base (k + 1) f fd [p] (spL N.length body K) := by
  refine fun_G F S (fun vs H Q E q => ?_) fun cdv A out s H vs Q E hg hr q => ⟨_, h cdv A out s H E hg hr, body_L ?_ q⟩
  · obtain ⟨a, ns, rfl, _⟩ := q
    rfl
  · have := congrArg List.length S.pre
    rw [List.length_take] at this
    simp at this
    omega

/-! ### the script read -/
section
variable {X : Cx} {x : Expr} {pos p2 : Pos}
open Classical in
noncomputable def xScrLen (K : PySem.W.Frag) (i : Nat) : X1 := fun e w => match e[i]? with
  | some (some (.scr K' ns)) => if K' = K then some (.v (.int ns.length), w) else none
  | _ => none
open Classical in
noncomputable def xScrCut (K : PySem.W.Frag) (i : Nat) (lo hi : O1) : X1 := fun e w => match e[i]? with
  | some (some (.scr K' ns)) => if K' = K then match lo e w with
    | some (a, w1) => match hi e w1 with
      | some (b, w2) => some (.v (.list (cutD (ns.map PyData.int) a b)), w2)
      | none => none
    | none => none
    else none
  | _ => none
theorem scr_len {i : Nat} {σ : L2.St} {H : Hp} {Q : VK} (q : tD (xScrLen X.K i) σ H Q) : tCB (fun xs H Q => ∃ p ys, xs = [.ref p] ∧ (SqL X.K H p ys ∨ SqT X.K H p ys) ∧ Q (.int ys.length) H) (tCons (tVar i) tNil) σ H Q := by
  obtain ⟨P, α, e, w, r, w', R, hf, k⟩ := q
  unfold xScrLen at hf
  split at hf
  · rename_i K' ns he
    split at hf
    · rename_i hK
      subst hK
      cases hf
      obtain ⟨v, h1, h2⟩ := R.sl i _ he
      obtain ⟨a, rfl, sq⟩ := ScrIs.seq h2
      exact ⟨_, h1, a, _, rfl, .inl sq, by rw [List.length_map]; exact k _ H α (.refl α H) R (.atm (.int _))⟩
    · cases hf
  · cases hf
theorem ints_dv {M : Addr → Prop} {H : Hp} : ∀ ns : List Int, DvA M H (ns.map V.int) (ns.map PyData.int)
  | [] => .nil
  | n :: r => .cons (.atm (.int n)) (ints_dv r)
theorem scr_cut {i : Nat} {lo hi : O1} {σ : L2.St} {H : Hp} {Q : VK} (q : tD (xScrCut X.K i lo hi) σ H Q) : tSl (rSlL X.K) (tVar i) (tO lo) (tO hi) σ H Q := by
  obtain ⟨P, α, e, w, r, w', R, hf, k⟩ := q
  unfold xScrCut at hf
  split at hf
  · rename_i K' ns he
    split at hf
    · rename_i hK
      subst hK
      cases h1 : lo e w with
      | none => simp [h1] at hf
      | some p =>
        obtain ⟨a, w1⟩ := p
        simp only [h1] at hf
        cases h2 : hi e w1 with
        | none => simp [h2] at hf
        | some p =>
          obtain ⟨b, w2⟩ := p
          simp only [h2] at hf
          cases hf
          obtain ⟨v, h3, h4⟩ := R.sl i _ he
          refine ⟨v, h3, P, α, e, w, a, w1, R, h1, fun H1 α1 u1 R1 => ⟨P, α1, e, w1, b, _, R1, h2, fun H2 α2 u2 R2 => ?_⟩⟩
          obtain ⟨v', h5, h6⟩ := R2.sl i _ he
          rw [h3] at h5
          cases h5
          obtain ⟨hl, c, rfl, _⟩ := id h6
          obtain ⟨c', e1, sq⟩ := ScrIs.seq h6
          cases e1
          refine ⟨c, _, rfl, sq, fun p hp => k _ _ α2 ((u1.trans u2).trans (.of_same (same_upd hp))) (R2.same (same_upd hp)) (new_lst R2.mut hp (cut_dv (ints_dv ns) a b) ?_)⟩
          have := cutD_len (ns.map PyData.int) a b
          rw [List.length_map] at this
          show _ ≤ 1000000
          omega
    · cases hf
  · cases hf
theorem d_scrLen {i : Nat} {n : Str} {p : Pos} (hg : Gl X n) (hm : X.mg n = none) (hv : bootBuiltins n = some (.builtin "len")) (ho : PE X x (tVar i)) (hn : n ≠ "__name__" := by decide) (hdb : (n == ("__debug__" : Str)) = false := by decide)
    (he : starEach [x] X.env = (false, eval x X.env) :: starEach [] X.env := by rfl) (hpl : (backTo pos (starEach [] X.env)).any (·.1) = false := by rfl) : PE X (.Call (.Name n p) [x] [] pos) (tD (xScrLen X.K i)) :=
  (pe_callB call_len_seq hg hm hv (pa_cons ho pa_nil he) hn hdb he hpl).imp fun _ _ _ q => scr_len q
theorem d_scrCut {i : Nat} {lo hi : Option Expr} {a b : O1} (ho : PE X x (tVar i)) (hl : PO X lo (tO a)) (hu : PO X hi (tO b)) : PE X (.Subscript x (.Slice lo hi none p2) pos) (tD (xScrCut X.K i a b)) := (pe_slice sl_list ho hl hu).imp fun _ _ _ q => scr_cut q
end

/-! ### dicts made -/
def dispGo : List (Key × X1) → DE → Wd → Option (List (Key × PyData) × Wd)
  | [], _, w => some ([], w)
  | (k, f) :: r, e, w => match f e w with
    | some (.v d, w1) => match dispGo r e w1 with
      | some (ps, w2) => some ((k, d) :: ps, w2)
      | none => none
    | _ => none
def mergeD (kvs more : List (Key × PyData)) : List (Key × PyData) := more.foldl (fun acc kv => putKD acc kv.1 kv.2) kvs
/-- a new shared dict -/
def xDispO (l : List (Key × X1)) : X1 := fun e w => match dispGo l e w with
  | some (ps, w1) => if l.length ≤ 15 then some (.obj w1.length, w1 ++ [.dct (mergeD [] ps)]) else none
  | none => none
theorem kvs_merge {M : Addr → Prop} {H : Hp} {more : List (Key × V)} {mored : List (Key × PyData)} (hm : KVs M H more mored) : ∀ {vs : List (Key × V)} {kvs : List (Key × PyData)}, KVs M H vs kvs → KVs M H (mergeK vs more) (mergeD kvs mored) := by
  induction hm with
  | nil => exact fun h => h
  | @cons q p l r a t ih =>
    intro vs kvs h
    have h2 : KVs M H (putK vs q.1 q.2) (putKD kvs p.1 p.2) := by
      rw [a.1]
      exact kvs_put a.2 h
    exact ih h2
theorem pairs_step {P : Addr → Prop} {e : DE} {σ : L2.St} : ∀ (l : List (Key × X1)) {α : List Addr} {w w' : Wd} {H : Hp} {ps : List (Key × PyData)} {Q : List (V × V) → Hp → Prop}, Rel P α e w σ H → dispGo l e w = some (ps, w') →
    (∀ vs H' α', UpE α H α' H' → Rel P α' e w' σ H' → KVs (Msk P α' e σ) H' vs ps → vs.length = l.length → Q (vs.map fun kv => (kV kv.1, kv.2)) H') → tPairs (l.map fun p => (tC (kV p.1), tD p.2)) σ H Q
  | [], α, w, w', H, ps, Q, R, hf, k => by
    cases hf
    exact k [] H α (.refl α H) R .nil rfl
  | (key, f) :: l, α, w, w', H, ps, Q, R, hf, k => by
    unfold dispGo at hf
    split at hf
    · rename_i d w1 h1
      split at hf
      · rename_i ps' w2 h2
        cases hf
        refine ⟨P, α, e, w, _, w1, R, h1, fun v H1 α1 u1 R1 i1 => ?_⟩
        refine pairs_step l R1 h2 fun vs H2 α2 u2 R2 kv hl => ?_
        exact k ((key, v) :: vs) H2 α2 (u1.trans u2) R2 (.cons ⟨rfl, Dv.upE (show Dv _ H1 v d from i1) u2⟩ kv) (by simp [hl])
      · cases hf
    · cases hf
theorem disp_step {l : List (Key × X1)} {σ : L2.St} {H : Hp} {Q : VK} (q : tD (xDispO l) σ H Q) : tDisp (l.map fun p => (tC (kV p.1), tD p.2)) σ H Q := by
  obtain ⟨P, α, e, w, r, w', R, hf, k⟩ := q
  unfold xDispO at hf
  split at hf
  · rename_i ps w1 h1
    split at hf
    · rename_i h15
      cases hf
      intro p hp
      have R0 := R.guard (u := .dK []) hp trivial
      refine pairs_step l R0 h1 fun vs H2 α2 u2 R2 kv hl => ?_
      have hp2 : H2 p = some (.dK []) := u2.kp p _ upd_same fun z => R0.pa p z (.inr rfl)
      refine ⟨hp2, vs, rfl, by omega, ?_⟩
      have R3 := R2.turn (u := .dK (mergeK [] vs)) trivial
      have nm : ∀ b o, H2 b = some o → ¬ Msk (fun b => P b ∨ b = p) α2 e σ b → (upd H2 p (.dK (mergeK [] vs))) b = some o := fun b o h n => by
        rw [upd_ne (fun z => n (.inl (.inr z)))]
        exact h
      have np : p ∉ α2 := fun z => R3.pa p z (.inr rfl)
      have nP : ¬ P p := fun z => not_P R hp (.inl z)
      have lm : ∀ b, Msk P (α2 ++ [p]) e σ b → Msk (fun b => P b ∨ b = p) α2 e σ b := fun b m => by
        rcases m with m | m | m
        · exact .inl (.inl m)
        · rcases List.mem_append.mp m with m | m
          · exact .inr (.inl m)
          · exact .inl (.inr (List.mem_singleton.mp m))
        · exact .inr (.inr m)
      have kv3 : KVs (Msk P (α2 ++ [p]) e σ) (upd H2 p (.dK (mergeK [] vs))) (mergeK [] vs) (mergeD [] ps) := kvs_merge (pmapQ kv fun a b z => ⟨z.1, (z.2.up nm fun b m => .inl m).less lm⟩) .nil
      have al := R2.al
      have R4 : Rel P (α2 ++ [p]) e (w1 ++ [.dct (mergeD [] ps)]) σ (upd H2 p (.dK (mergeK [] vs))) := by
        refine ⟨R3.ln, ?_, fun b hb => ?_, fun b z => R3.pt b (.inl z), by rw [List.length_append, List.length_append, R3.al]; rfl, fun n z c h1 h2 => ?_, fun i x h => ?_, fun i ds b h1 h2 => ⟨fun hb => ?_, fun z => (R3.oa i ds b h1 h2).2 (.inl z)⟩, R3.od⟩
        · rw [List.nodup_append]
          exact ⟨R3.nd, by simp, fun x hx y hy => by rw [List.mem_singleton.mp hy]; exact fun z => np (z ▸ hx)⟩
        · rcases List.mem_append.mp hb with hb | hb
          · exact fun z => R3.pa b hb (.inl z)
          · rw [List.mem_singleton.mp hb]; exact nP
        · by_cases hn : n < w1.length
          · rw [List.getElem?_append_left hn] at h1
            rw [List.getElem?_append_left (by rw [al]; exact hn)] at h2
            exact (R3.ob n z c h1 h2).less lm
          · have hn1 : n = w1.length := by
              have := (List.getElem?_eq_some_iff.mp h1).1
              rw [List.length_append] at this
              simp at this
              omega
            subst hn1
            rw [List.getElem?_append_right (Nat.le_refl _)] at h1
            rw [List.getElem?_append_right (by rw [al]; exact Nat.le_refl _)] at h2
            simp at h1
            rw [al] at h2
            simp at h2
            subst h1 h2
            exact ⟨_, upd_same, kv3⟩
        · obtain ⟨v, q1, q2⟩ := R3.sl i x h
          refine ⟨v, q1, ?_⟩
          have q3 := q2.less lm
          cases x with
          | obj n =>
            obtain ⟨a, h3, h4⟩ := q2
            exact ⟨a, by rw [List.getElem?_append_left (List.getElem?_eq_some_iff.mp h3).1]; exact h3, h4⟩
          | v d => exact q3
          | own ds => exact q3
          | scr K ns => exact q3
        · rcases List.mem_append.mp hb with hb | hb
          · exact (R3.oa i ds b h1 h2).1 hb
          · exact (R3.oa i ds b h1 h2).2 (.inr (List.mem_singleton.mp hb))
      have uu : UpE α H (α2 ++ [p]) (upd H2 p (.dK (mergeK [] vs))) := by
        obtain ⟨β, hβ⟩ := u2.pre
        refine ⟨⟨β ++ [p], by rw [hβ, List.append_assoc]⟩, fun b hb n => ?_, fun b o h n => ?_, fun b h => ?_⟩
        · rcases List.mem_append.mp hb with hb | hb
          · have z := u2.fre b hb n
            by_cases hbp : b = p
            · rw [hbp]; exact hp
            · rw [upd_ne hbp] at z; exact z
          · rw [List.mem_singleton.mp hb]; exact hp
        · have hbp : b ≠ p := ne_of_none h hp
          rw [upd_ne hbp]
          exact u2.kp b o (by rw [upd_ne hbp]; exact h) n
        · by_cases hbp : b = p
          · rw [hbp]; exact hp
          · rw [upd_ne hbp] at h
            have z := u2.ex b h
            rw [upd_ne hbp] at z
            exact z
      exact k _ _ (α2 ++ [p]) uu R4 ⟨p, by rw [List.getElem?_append_right (by rw [al]; exact Nat.le_refl _), al]; simp, rfl⟩
    · cases hf
  · cases hf
theorem d_dispO {X : Cx} {pos : Pos} {keys : List (Option Expr)} {values : List Expr} (l : List (Key × X1)) (h : PPs X pos keys values (l.map fun p => (tC (kV p.1), tD p.2))) (hall : keys.all (·.isSome) = true) (hl : keys.length = values.length) (h0 : keys ≠ []) (h15 : keys.length ≤ 15) :
    PE X (.Dict keys values pos) (tD (xDispO l)) := (pe_disp h hall hl h0 h15).imp fun _ _ _ q => disp_step q
end DL
/-! ### sorted, over data; tuples that begin with the empty one among them -/
namespace DL
open PySem PySem.Spec PySem.Calls PySem.W PyProof.Rows PySem.SeqAt
section
variable {M : Model} {A : Around} {E : Value → Shared → Prop} {s : Shared}
/-- v is a tuple whose first item is f -/
def FirstIs (h : Heap) (v : Value) (f : Option Value) : Prop := ∃ (a : Addr) (o : Obj) (xs : Array Value) (n : Nat), v = .ref a ∧ h.get? a = some o ∧ o.cls = .type "tuple" ∧ o.data = .seq xs n ∧ xs[0]? = f
abbrev Firsts (h : Heap) : List Value → List (Option Value) → Prop := PySem.Paired (FirstIs h)
theorem first_run {v : Value} {f : Option Value} {Q : Option Value → Shared → Prop} (t : FirstIs s.heap v f) (k : Q f s) : wpAny M A (firstOfTuple' v) Q E s := by
  rcases t with ⟨a, o, xs, n, rfl, at', cl, da, rfl⟩
  have lk : Looks M s.heap (typeOf (.ref a)) (.type "tuple") := cl ▸ (Looks.ld at').andThen .now
  rw [kas_first_eq]
  refine wpAny_bind (lk.here ?_)
  rw [if_neg (show ¬ (Value.type "tuple" != Value.type "tuple") = true by decide)]
  exact wpAny_bind (listItems_at at' da (wpAny_pure k))
theorem firsts_run {vs : List Value} {fs : List (Option Value)} (t : Firsts s.heap vs fs) : ∀ {Q : List (Option Value) → Shared → Prop}, Q fs s → wpAny M A (vs.mapM firstOfTuple') Q E s := by
  induction t with
  | nil => intro Q k; rw [List.mapM_nil]; exact wpAny_pure k
  | cons p r ih =>
    intro Q k
    rw [List.mapM_cons]
    refine wpAny_bind (first_run p (wpAny_bind (ih ?_)))
    exact wpAny_pure k
theorem kind_tup0 {vs : List Value} {fs : List (Option Value)} {Q : SortKind → Shared → Prop} (t : Firsts s.heap vs (none :: fs)) (hT : ∀ v ∈ vs, Looks M s.heap (typeOf v) (.type "tuple")) (h : Q oneType' s) : wpAny M A (keyKind' vs.toArray) Q E s := by
  have types : ∀ {R : List Value → Shared → Prop}, R (vs.map fun _ => Value.type "tuple") s → wpAny M A (vs.mapM typeOf) R E s := fun k => kas_mapM (r := Value.type "tuple") vs (fun v hv Q' hq => (hT v hv).here hq) k
  obtain ⟨v, vr, e⟩ : ∃ v vr, vs = v :: vr := by cases t; exact ⟨_, _, rfl⟩
  rw [kat_kind_eq, List.mapM_toArray, map_eq_pure_bind]; refine wpAny_bind (wpAny_bind (firsts_run t (wpAny_pure ?_)))
  rw [if_neg (show ¬ (((none :: fs).toArray.all fun x => x.isSome) = true) by simp), if_neg (show ¬ (((none :: fs).toArray[0]?.bind id).isSome = true) by simp), oneTypeOnly'_eq, List.mapM_toArray, map_eq_pure_bind]
  refine wpAny_bind (wpAny_bind (wpAny_bind (types (wpAny_pure ?_))))
  have same : ((List.map (fun _ => Value.type "tuple") vs).toArray.all fun x => x == Value.type "tuple") = true := by
    rw [List.all_toArray, List.all_map, List.all_eq_true]
    exact fun _ _ => beq_self_eq_true (Value.type "tuple")
  rw [show (List.map (fun _ => Value.type "tuple") vs).toArray[0]? = some (Value.type "tuple") by rw [e]; simp]
  simp only [same, if_true]
  exact wpAny_pure (show wpAny M A (pure oneType') Q E s from wpAny_pure h)
end
section
variable {prog : Program} {w : World} {A : Around} {E : Value → Shared → Prop} {s : Shared}
theorem oneLt_tup {xs ys : List PyData} {a b : Value} {as bs : List Addr} {Q : Bool → Shared → Prop} (ra : Reads s.heap a (.tuple xs) as) (rb : Reads s.heap b (.tuple ys) bs) (hal : alikeAll xs ys = true)
    (hu : A.units + min (PyData.tuple xs).depth (PyData.tuple ys).depth < cLine) (hq : Q (dataLt (.tuple xs) (.tuple ys)) s) : wpAny (model prog w) A (oneLt' true a b) Q E s := by
  cases ra with
  | @tuple p o us m _ _ ha ca da ia => cases rb with
  | @tuple p' o' ws m' _ _ hb cb db ib =>
  have la : us.size = xs.length := by rw [← Array.length_toList]; exact SeqAt.ReadsAll.length _ _ _ ia
  have lb : ws.size = ys.length := by rw [← Array.length_toList]; exact SeqAt.ReadsAll.length _ _ _ ib
  have deep := SeqAt.room_in hu
  have he : ∀ j (h1 : j < us.size) (h2 : j < ws.size), EqAt A.in1 s us[j] ws[j] (pairEq xs ys j) := fun j j1 j2 => by
    have z := eqAt_alikeAll xs ys A.in1 s us.toList ws.toList _ _ ia ib hal deep j (by simpa using j1) (by simpa using j2)
    rw [Array.getElem_toList, Array.getElem_toList] at z
    exact z
  have hr : ∀ j (h1 : j < us.size) (h2 : j < ws.size), pairEq xs ys j = false → RcLt A.in1 s us[j] ws[j] (dataLt (xs.getD j .none) (ys.getD j .none)) := fun j j1 j2 ne => by
    have z := rcLt_alikeAll xs ys A.in1 s us.toList ws.toList _ _ ia ib hal deep j (by simpa using j1) (by simpa using j2) ne
    rw [Array.getElem_toList, Array.getElem_toList] at z
    exact z
  rw [dataLt_tuple, ← firstLt_toks xs ys hal, ← la, ← lb] at hq
  rw [oneLt'_eq, if_pos rfl]
  refine wpAny_bind (wpAny_cRoomFor (SeqAt.room_here hu) (wpAny_bind (wpAny_callSpecialIfBound?_slot (T := "tuple") ⟨_, ha, ca⟩ F.slot_tuple_lt ?_)))
  obtain ⟨oc, dd, od, sl⟩ := o
  obtain ⟨oc2, dd2, od2, sl2⟩ := o'
  dsimp only at ca da cb db; subst ca da cb db
  exact call_meets F.slot_tuple_lt ⟨_, ha, rfl⟩ F.entry_tuple_lt (F.args_tuple_lt_2 _ _) (tuple_ltAt _ _ us ws _ _ dd dd2 sl sl2 (pairEq xs ys) fun j => dataLt (xs.getD j .none) (ys.getD j .none)) ⟨ha, hb, he, hr, wpAny_truthy_bool hq⟩
theorem firsts_reads : ∀ {vs : List Value} {ds : List PyData}, EachIs (fun v d => ∃ as, Reads s.heap v d as) vs ds → (∀ d ∈ ds, ∃ r, d = .tuple r) → ∃ fs, Firsts s.heap vs fs ∧ (ds.head? = some (.tuple []) → fs.head? = some none)
  | _, _, .nil, _ => ⟨[], PySem.Paired.nil, fun h => by simp at h⟩
  | _, _, .cons (b := d) ⟨as, r⟩ t, ht => by
    obtain ⟨fs, h1, _⟩ := firsts_reads t fun d hd => ht d (List.mem_cons_of_mem _ hd)
    obtain ⟨rest, rfl⟩ := ht d (List.mem_cons_self ..)
    cases r with
    | @tuple a o xs n _ _ ho hc hd hr =>
      refine ⟨xs[0]? :: fs, PySem.Paired.cons ⟨a, o, xs, n, rfl, ho, hc, hd, rfl⟩ h1, fun h => ?_⟩
      have h' : PyData.tuple rest = .tuple [] := by simpa using h
      cases h'
      have := SeqAt.ReadsAll.length _ _ _ hr
      have z : xs.size = 0 := by simpa using this
      simp [z]
/-- tuples of any lengths, the first of them the empty one -/
theorem sortsAt_tup0 {vs : List Value} {ds : List PyData} (e : EachIs (fun v d => ∃ as, Reads s.heap v d as) vs (.tuple [] :: ds)) (hal : AllAlike (.tuple [] :: ds)) (ht : ∀ d ∈ (.tuple [] :: ds : List PyData), ∃ r, d = .tuple r) (hu : ∀ d, d ∈ (.tuple [] :: ds : List PyData) → A.units + d.depth < cLine) :
    SortsAt prog w A s (dataKind s.heap (.tuple [] :: ds)) vs := by
  have room : ∀ {d d' : PyData}, d ∈ (.tuple [] :: ds : List PyData) → A.units + min d.depth d'.depth < cLine := fun {d d'} hd => Nat.lt_of_le_of_lt (Nat.add_le_add_left (Nat.min_le_left _ _) _) (hu d hd)
  refine ⟨fun v hv => ?_, oneType', ?_, fun h2 E Q hq => ?_⟩
  · obtain ⟨d, hd, as, r⟩ := e.left v hv
    exact ⟨_, dataKind_some hal hd r⟩
  · intro E x y a b Q ha hb hq
    obtain ⟨d, as, hd, ra, rfl⟩ := dataKind_inv ha
    obtain ⟨d', as', hd', rb, rfl⟩ := dataKind_inv hb
    rw [keyLt'_oneType]
    have hdd := hal d hd d' hd'
    have hr := room (d' := d') hd
    obtain ⟨xs, rfl⟩ := ht d hd
    obtain ⟨ys, rfl⟩ := ht d' hd'
    exact oneLt_tup ra rb (by simpa [alike] using hdd) hr hq
  · obtain ⟨fs, h1, h3⟩ := firsts_reads e ht
    have h4 := h3 rfl
    obtain ⟨fr, rfl⟩ : ∃ fr, fs = none :: fr := by
      match fs, h4 with
      | _ :: fr, h4 => exact ⟨fr, by simp at h4; rw [h4]⟩
    refine kind_tup0 h1 (fun v hv => ?_) hq
    obtain ⟨d, hd, as, r⟩ := e.left v hv
    obtain ⟨xs, rfl⟩ := ht d hd
    exact looks_reads r
end
/-- what may be sorted -/
def tupB : PyData → Bool
  | .tuple _ => true
  | _ => false
def tupB1 : PyData → Bool
  | .tuple (_ :: _) => true
  | _ => false
def sortOk (ds : List PyData) : Bool := ds.all (fun d => noDict d && decide (d.depth ≤ 64) && ds.all (alike d)) && (ds.all tupB1 || ds.all (fun d => !tupB d && !isNone d) || (ds.all tupB && match ds with | .tuple [] :: _ => true | _ => false))
def sortD (ds : List PyData) : List PyData := ds.mergeSort (dataLe false fun d => d)
open L2
def rSortD (K : PySem.W.Frag) : List V → Hp → VK → Prop := fun vs H Q => ∃ a xs ds, vs = [V.ref a] ∧ SqL K H a xs ∧ DvA (fun _ => False) H xs ds ∧ ds.length ≤ LIM ∧ sortOk ds = true ∧ ∀ ys p, (∀ M, DvA M H xs ds → DvA M H ys (sortD ds)) → H p = none → Q (.ref p) (upd H p (.lst ys))
section
variable {X : Cx}
theorem each_vals {H : Hp} : ∀ {xs : List V} {us : List Value} {ds : List PyData}, Vals xs us → DvA (fun _ => False) H xs ds → EachIs (fun u d => ∃ x : V, RelV x u ∧ x ∈ xs ∧ ∀ M, DvA M H xs ds → Dv M H x d) us ds
  | _, _, _, .nil, .nil => .nil
  | _, _, _, .cons r t, .cons a b => .cons ⟨_, r, List.mem_cons_self .., fun M h => by cases h; assumption⟩ ((each_vals t b).mono fun u d ⟨x, h1, h2, h3⟩ => ⟨x, h1, List.mem_cons_of_mem _ h2, fun M h => h3 M (by cases h; assumption)⟩)
theorem vals_each {P : V → PyData → Prop} : ∀ {us : List Value} {ds : List PyData}, EachIs (fun u d => ∃ x : V, RelV x u ∧ P x d) us ds → ∃ ys, Vals ys us ∧ Paired P ys ds
  | _, _, .nil => ⟨[], .nil, .nil⟩
  | _, _, .cons ⟨x, r, h⟩ t => by
    obtain ⟨ys, h1, h2⟩ := vals_each t
    exact ⟨x :: ys, .cons r h1, .cons h h2⟩
theorem paired_dva {M : Addr → Prop} {H : Hp} : ∀ {xs : List V} {ds : List PyData}, Paired (fun x d => Dv M H x d) xs ds → DvA M H xs ds
  | _, _, .nil => .nil
  | _, _, .cons a b => .cons a (paired_dva b)
theorem sort_reads {pins : List (Addr × Obj)} {σ : L2.St} {H : Hp} {s : Shared} (I : Inv X pins σ H s) : ∀ {xs : List V} {us : List Value} {ds : List PyData}, Vals xs us → DvA (fun _ => False) H xs ds → (∀ d ∈ ds, noDict d = true) → EachIs (fun u d => ∃ as, Reads s.heap u d as) us ds
  | _, _, _, .nil, .nil, _ => .nil
  | _, _, _, .cons r t, .cons a b, hn => .cons (Dv.reads I _ _ _ (hn _ (List.mem_cons_self ..)) a r) (sort_reads I t b fun d hd => hn d (List.mem_cons_of_mem _ hd))
theorem call_sortedD (hu : X.A.units + 100 < cLine) : CallR X (.builtin "sorted") (rSortD X.K) := by
  intro pins s σ H vs us Q I r h
  obtain ⟨a, xs, ds, rfl, hs, dv, hlim, ok, q⟩ := h
  obtain ⟨its, rv, hl, hz⟩ := I.list hs
  rw [Vals.ref1 r]
  have hlen := dv.length
  unfold sortOk at ok
  simp only [Bool.and_eq_true, List.all_eq_true, decide_eq_true_eq] at ok
  obtain ⟨ok1, ok2⟩ := ok
  have hal : AllAlike ds := fun d hd d' hd' => (ok1 d hd).2 d' hd'
  have hnd : ∀ d ∈ ds, noDict d = true := fun d hd => (ok1 d hd).1.1
  have hdp : ∀ d ∈ ds, X.A.in1.in1.units + d.depth < cLine := fun d hd => by
    have z : d.depth ≤ 64 := (ok1 d hd).1.2
    show X.A.units + 1 + 1 + d.depth < cLine
    omega
  have er := sort_reads I rv dv hnd
  have e := each_vals rv dv
  have er' : EachIs (fun v d => ∃ as, Reads (sortingHeap (copyHeap s.heap its) (s.heap.objs.size + 1) its) v d as) its ds := er.mono fun _ _ ⟨as, r⟩ => ⟨as, PyProof.Rows.Reads.keeps (fun _ _ => sorting_copy_old) r⟩
  have S : SortsAt X.prog X.w X.A.in1.in1 { s with heap := sortingHeap (copyHeap s.heap its) (s.heap.objs.size + 1) its } (dataKind (sortingHeap (copyHeap s.heap its) (s.heap.objs.size + 1) its) ds) its := by
    simp only [Bool.or_eq_true, Bool.and_eq_true, List.all_eq_true] at ok2
    rcases ok2 with (h1 | h1) | ⟨h1, h2⟩
    · exact SortsAt.data (s := { s with heap := sortingHeap (copyHeap s.heap its) (s.heap.objs.size + 1) its }) er' hal (.inl fun d hd => by
        have z := h1 d hd
        cases d with
        | tuple r => cases r with
          | nil => cases z
          | cons x r => exact ⟨x, r, rfl⟩
        | _ => cases z) hdp
    · exact SortsAt.data (s := { s with heap := sortingHeap (copyHeap s.heap its) (s.heap.objs.size + 1) its }) er' hal (.inr fun d hd => by
        have z := h1 d hd
        exact ⟨fun e => by subst e; simp [isNone] at z, fun xs e => by subst e; simp [tupB] at z⟩) hdp
    · cases ds with
      | nil => cases h2
      | cons d0 dr =>
        cases d0 with
        | tuple r0 => cases r0 with
          | nil => exact sortsAt_tup0 (s := { s with heap := sortingHeap (copyHeap s.heap its) (s.heap.objs.size + 1) its }) er' hal (fun d hd => by
              have z := h1 d hd
              cases d with
              | tuple r => exact ⟨r, rfl⟩
              | _ => cases z) hdp
          | cons x r => cases h2
        | _ => cases h2
  refine sorted_vals hl.isList S (by rw [← rv.length]; exact hz) ?_
  have hm : ds.map (fun d => d) = ds := List.map_id' ds
  have es := sortVals_data (enc := fun d : PyData => d) false e er' (by rw [hm]; exact hal)
  rw [hm] at es
  obtain ⟨ys, hv, hp⟩ := vals_each (P := fun x d => x ∈ xs ∧ ∀ M, DvA M H xs ds → Dv M H x d) es
  obtain ⟨ep, he'⟩ := PyProof.Rows.sortedAll_at s.heap its (sortVals (dataKind (sortingHeap (copyHeap s.heap its) (s.heap.objs.size + 1) its) ds) false its its).toArray
  have hly : ys.length = ds.length := by
    rw [Paired.len hp]
    exact List.length_mergeSort ..
  exact ⟨.ref _, upd H (s.heap.objs.size + 1) (.lst ys), I.laid (t' := s.toks) (fun _ _ => PyProof.Rows.sortedAll_old) (Nat.le_succ _) ⟨by rw [hly]; exact lim_le hlim, _, ep, hv, he'⟩, rfl, q ys _ (fun M h => paired_dva (pmapQ hp fun x d z => z.2 M h)) (I.hok.fresh (Nat.le_succ _))⟩
def gSorted : List PyData → Option PyData
  | [.list ds] => if sortOk ds then some (.list (sortD ds)) else none
  | _ => none
theorem p_sorted {K : PySem.W.Frag} : PureN (rSortD K) gSorted := fun M H xs ds z Q hm hx hg k => by
  match ds, hx, hg with
  | [.list es], hx, hg =>
    by_cases ok : sortOk es = true
    · simp only [gSorted, ok, if_true] at hg
      cases hg
      obtain ⟨v, rfl, dv⟩ := one hx
      obtain ⟨a, ys, rfl, rd, q, l⟩ := dv.lst
      refine ⟨a, ys, es, rfl, .inl rd, q.less fun b z => z.elim, l, ok, fun zs p hz hp => k _ _ (same_upd hp) (new_lst hm hp (hz M q) ?_)⟩
      show (sortD es).length ≤ LIM
      unfold sortD
      rw [List.length_mergeSort]
      exact l
    · simp [gSorted, ok] at hg
end
end DL
/-! ### helps for texts that a script has printed -/
theorem L2.Room.u1 {k : Nat} {A : PySem.Around} (r : L2.Room k A) : A.units + 1 < PySem.cLine := by have := r.un; omega
theorem L2.Room.u64 {k : Nat} {A : PySem.Around} (r : L2.Room k A) : A.units + 64 < PySem.cLine := by have := r.un; omega
theorem L2.Room.u66 {k : Nat} {A : PySem.Around} (r : L2.Room k A) : A.units + 66 < PySem.cLine := by have := r.un; omega
theorem L2.Room.u100 {k : Nat} {A : PySem.Around} (r : L2.Room k A) : A.units + 100 < PySem.cLine := by have := r.un; omega
namespace DL
open PySem PySem.Spec PyProof.Rows L2
theorem boot_abs_ : bootBuiltins "abs" = some (.builtin "abs") := by decide +kernel
theorem boot_any_ : bootBuiltins "any" = some (.builtin "any") := by decide +kernel
theorem boot_all_ : bootBuiltins "all" = some (.builtin "all") := by decide +kernel
theorem boot_len_ : bootBuiltins "len" = some (.builtin "len") := by decide +kernel
theorem boot_min_ : bootBuiltins "min" = some (.builtin "min") := by decide +kernel
theorem boot_max_ : bootBuiltins "max" = some (.builtin "max") := by decide +kernel
theorem boot_repr_ : bootBuiltins "repr" = some (.builtin "repr") := by decide +kernel
theorem boot_sorted_ : bootBuiltins "sorted" = some (.builtin "sorted") := by decide +kernel
theorem boot_isinstance_ : bootBuiltins "isinstance" = some (.builtin "isinstance") := by decide +kernel
theorem boot_tuple_ : bootBuiltins "tuple" = some (.type "tuple") := by decide +kernel
theorem boot_list_ : bootBuiltins "list" = some (.type "list") := by decide +kernel
theorem boot_int_ : bootBuiltins "int" = some (.type "int") := by decide +kernel
theorem boot_set_ : bootBuiltins "set" = some (.type "set") := by decide +kernel
/-- a def that is known by its name -/
structure Kn (P : Program) (w : World) (K : PySem.W.Frag) (m0 : Str → Option Value) (base : Heap) (k : Nat) (n : Str) (ps : List Str) (sp : Sp) where
  f : Addr
  fd : FuncData
  rn : FnOk P w K m0 base CX0 k f fd ps sp
  mg : m0 n = some (.ref f)
  kp : PySem.W.keepIn K (.ref f) = true
  bd : Binds K fd ps []
section
variable {X : Cx} {x o : Expr} {pos p1 p2 : Pos} {f : X1}
theorem ds_append {i : Nat} (h : PE X x (tBM X.K "list" rAppend (tVar i) (tCons (tD f) tNil))) (hs : swapsWith x none pos.line X.env = pure false := by rfl) : PS X (.Expr x pos) (tS (sAppend i f)) := (ps_expr h hs).imp fun _ _ _ q => append_step q
theorem ds_extend {i : Nat} (h : PE X x (tBM X.K "list" rExtend (tVar i) (tCons (tF f) tNil))) (hs : swapsWith x none pos.line X.env = pure false := by rfl) : PS X (.Expr x pos) (tS (sExtend i f)) := (ps_expr h hs).imp fun _ _ _ q => extend_step q
end
/-! ### == and != with texts as they are -/
section
variable {X : Cx}
def rEqA : R2 := fun x y H Q => rEq x y H Q ∨ rEqV x y H Q
def rNeA : R2 := fun x y H Q => rNe x y H Q ∨ rNeV x y H Q
theorem op_eqA (hu : X.A.units + 64 < cLine) : OpR X (compareOp .Eq) rEqA := OpR.or op_eq (op_eqV hu)
theorem op_neA (hu : X.A.units + 64 < cLine) : OpR X (compareOp .NotEq) rNeA := OpR.or op_ne (op_neV hu)
def gEqS : PyData → PyData → Option PyData
  | .str x, .str y => some (.bool (decide (x = y)))
  | d, e => gEq d e
def gNeS : PyData → PyData → Option PyData
  | .str x, .str y => some (.bool (!decide (x = y)))
  | d, e => gNe d e
theorem p_eqA : Pure2 rEqA gEqS := fun M H x y d e z Q hm hx hy hg k => by
  unfold gEqS at hg
  split at hg
  · rename_i a b
    rw [hx.str, hy.str]
    refine .inl ⟨rfl, ?_⟩
    cases hg
    refine k _ H (fun _ _ h => h) (.atm ?_)
    have e : decide (V.str a = V.str b) = decide (a = b) := Bool.eq_iff_iff.mpr (by simp)
    rw [e]
    exact .bl _
  · exact .inr (p_eq M H x y d e z Q hm hx hy hg k)
theorem p_neA : Pure2 rNeA gNeS := fun M H x y d e z Q hm hx hy hg k => by
  unfold gNeS at hg
  split at hg
  · rename_i a b
    rw [hx.str, hy.str]
    refine .inl ⟨rfl, ?_⟩
    cases hg
    refine k _ H (fun _ _ h => h) (.atm ?_)
    have e : (!decide (V.str a = V.str b)) = !decide (a = b) := by
      congr 1
      exact Bool.eq_iff_iff.mpr (by simp)
    rw [e]
    exact .bl _
  · exact .inr (p_ne M H x y d e z Q hm hx hy hg k)
end
end DL
/-! ### meanings, evaluated; the deck that every law draws from -/
namespace DL
open PySem PySem.Spec PyProof.Rows L2
theorem k_ct : ¬ (("cells" : Str) = "turn") := by decide +kernel
theorem k_cg : ¬ (("cells" : Str) = "great") := by decide +kernel
theorem k_tg : ¬ (("turn" : Str) = "great") := by decide +kernel
theorem k_tc : ¬ (("turn" : Str) = "cells") := by decide +kernel
theorem k_gt : ¬ (("great" : Str) = "turn") := by decide +kernel
theorem k_gc : ¬ (("great" : Str) = "cells") := by decide +kernel
def deckO (cells : List Int) (t g : Int) : WO := .dct [(.inr "cells", .list (cells.map .int)), (.inr "turn", .int t), (.inr "great", .int g)]
theorem deck_cells (c : PyData) (t g : PyData) : getK [(.inr "cells", c), (.inr "turn", t), (.inr "great", g)] (.inr "cells") = some c := by
  simp [getK, List.find?]
theorem deck_turn (c : PyData) (t g : PyData) : getK [(.inr "cells", c), (.inr "turn", t), (.inr "great", g)] (.inr "turn") = some t := by
  simp [getK, List.find?, k_ct]
theorem deck_great (c : PyData) (t g : PyData) : getK [(.inr "cells", c), (.inr "turn", t), (.inr "great", g)] (.inr "great") = some g := by
  simp [getK, List.find?, k_cg, k_tg]
theorem put_turn (c : PyData) (t g d : PyData) : putKD [(.inr "cells", c), (.inr "turn", t), (.inr "great", g)] (.inr "turn") d = [(.inr "cells", c), (.inr "turn", d), (.inr "great", g)] := by
  simp [putKD, k_ct, k_gt]
theorem put_great (c : PyData) (t g d : PyData) : putKD [(.inr "cells", c), (.inr "turn", t), (.inr "great", g)] (.inr "great") d = [(.inr "cells", c), (.inr "turn", t), (.inr "great", d)] := by
  simp [putKD, k_cg, k_tg]
def B_take : S1 := sSeq (sPutK 0 (.inr "turn") (x2 gAdd (xKey 0 (.inr "turn")) (xC (.int 1))))
  (sSeq (sIf (tBool (x2 gGt (xKey 0 (.inr "great")) (xC (.int 0)))) (sSeq (sSet 2 (x2 gMod (xKey 0 (.inr "great")) (xVar 1))) (sSeq (sPutK 0 (.inr "great") (x2 gDiv (xKey 0 (.inr "great")) (xVar 1))) (sRet (xVar 2)))) sNx)
  (sSeq (sPar 3 4 (aCons (xKey 0 (.inr "turn")) (aCons (xKey 0 (.inr "cells")) aNil)))
  (sSeq (sSet 5 (x2 gMod (x2 gPow (x2 gAdd (x2 gAdd (x2 gMod (x2 gIx (xVar 4) (x2 gMod (xVar 3) (xN gLen (aCons (xVar 4) aNil)))) (xC (.int 2147483399))) (x2 gMul (xC (.int 70001)) (xVar 3))) (xC (.int 53))) (xC (.int 3))) (xC (.int 2147483489))))
  (sRet (x2 gMod (x2 gDiv (x2 gMod (x2 gAdd (x2 gMul (xVar 5) (xC (.int 53147))) (x2 gMul (x2 gMul (xC (.int 6397)) (xVar 3)) (xVar 3))) (xC (.int 2147483423))) (xC (.int 13))) (xVar 1))))))
def F_take : List FA → Wd → Option (FA × Wd) := fnD 6 B_take
theorem fmod_in {a m : Int} (h : 0 < m) : 0 ≤ a.fmod m ∧ a.fmod m < m := ⟨Int.fmod_nonneg_of_pos _ h, Int.fmod_lt_of_pos _ h⟩
theorem atI_ints (cells : List Int) (i : Int) (h0 : 0 ≤ i) (h1 : i < cells.length) : ∃ c, atI (cells.map PyData.int) i = some (.int c) := by
  have h2 : i.toNat < cells.length := by omega
  refine ⟨cells[i.toNat], ?_⟩
  unfold atI ixN
  rw [List.length_map, if_pos h0, if_pos h1]
  show (cells.map PyData.int)[i.toNat]? = _
  rw [List.getElem?_map, List.getElem?_eq_getElem h2]
  rfl
theorem xKey_ev {i n : Nat} {k : Key} {e : DE} {w : Wd} {kvs : List (Key × PyData)} {d : PyData} (h1 : e[i]? = some (some (.obj n))) (h2 : w[n]? = some (.dct kvs)) (h3 : getK kvs k = some d) : xKey i k e w = some (.v d, w) := by
  simp only [xKey, h1, h2, h3]
theorem sPutK_ev {i n : Nat} {k : Key} {f : X1} {e : DE} {w w1 : Wd} {kvs : List (Key × PyData)} {d : PyData} (hf : f e w = some (.v d, w1)) (h1 : e[i]? = some (some (.obj n))) (h2 : w1[n]? = some (.dct kvs)) (h3 : kvs.length < LIM) : sPutK i k f e w = some (.nx e (w1.set n (.dct (putKD kvs k d)))) := by
  simp only [sPutK, hf, h1, h2, h3, if_true]
theorem set_again {w : Wd} {n : Nat} {a b : WO} : (w.set n a).set n b = w.set n b := List.set_set ..
theorem set_here {w : Wd} {n : Nat} {a o : WO} (h : w[n]? = some o) : (w.set n a)[n]? = some a := by
  have := (List.getElem?_eq_some_iff.mp h).1
  rw [List.getElem?_set_self this]
theorem take_ok {n : Nat} {w : Wd} {cells : List Int} {t g m : Int} (hw : w[n]? = some (deckO cells t g)) (hc : cells ≠ []) (hl : cells.length ≤ 64) (ht : 0 ≤ t) (ht2 : t < 1000000000000) (hg : 0 ≤ g) (hm : 1 ≤ m) (hm2 : m < 1073741824) :
    ∃ k g', F_take [.obj n, .val (.int m)] w = some (.val (.int k), w.set n (deckO cells (t + 1) g')) ∧ 0 ≤ k ∧ k < m ∧ 0 ≤ g' := by
  have hm0 : m ≠ 0 := by omega
  have hma : m.natAbs < 1073741824 := by omega
  have l15 : ([(.inr "cells", .list (cells.map .int)), (.inr "turn", .int t), (.inr "great", .int g)] : List (Key × PyData)).length < LIM := by
    show 3 < LIM
    decide
  have p1 : ∀ e : DE, e[0]? = some (some (.obj n)) → sPutK 0 (.inr "turn") (x2 gAdd (xKey 0 (.inr "turn")) (xC (.int 1))) e w = some (.nx e (w.set n (deckO cells (t + 1) g))) := fun e he => by
    rw [sPutK_ev (n := n) (w1 := w) (kvs := [(.inr "cells", .list (cells.map .int)), (.inr "turn", .int t), (.inr "great", .int g)]) (d := .int (t + 1)) (by
      simp only [x2, xKey_ev he hw (deck_turn _ _ _), xC, valOf, gAdd, Option.map_some]) he hw l15, put_turn]
    rfl
  have hw1 : (w.set n (deckO cells (t + 1) g))[n]? = some (deckO cells (t + 1) g) := set_here hw
  unfold F_take fnD B_take
  simp only [startE, List.map_cons, List.map_nil, toSV, List.length_cons, List.length_nil, Nat.reduceAdd, Nat.reduceSub, List.replicate, List.cons_append, List.nil_append]
  rw [show sSeq _ _ _ _ = _ from rfl]
  unfold sSeq
  rw [p1 _ rfl]
  simp only []
  have gr : ∀ e : DE, e[0]? = some (some (.obj n)) → xKey 0 (.inr "great") e (w.set n (deckO cells (t + 1) g)) = some (.v (.int g), w.set n (deckO cells (t + 1) g)) := fun e he => xKey_ev he hw1 (deck_great _ _ _)
  by_cases hg0 : 0 < g
  · refine ⟨g.fmod m, g.fdiv m, ?_, (fmod_in (by omega)).1, (fmod_in (by omega)).2, ?_⟩
    · have p2 : ∀ e : DE, e[0]? = some (some (.obj n)) → e[1]? = some (some (.v (.int m))) → sPutK 0 (.inr "great") (x2 gDiv (xKey 0 (.inr "great")) (xVar 1)) e (w.set n (deckO cells (t + 1) g)) = some (.nx e (w.set n (deckO cells (t + 1) (g.fdiv m)))) := fun e he h1 => by
        rw [sPutK_ev (n := n) (w1 := w.set n (deckO cells (t + 1) g)) (kvs := [(.inr "cells", .list (cells.map .int)), (.inr "turn", .int (t + 1)), (.inr "great", .int g)]) (d := .int (g.fdiv m)) (by
          simp only [x2, gr e he, xVar, h1, valOf, gDiv, gI2c, cDiv, hm0, hma, Option.map_some, ne_eq, not_false_eq_true, decide_true, Bool.and_self, if_true]) he hw1 (by show 3 < LIM; decide), put_great, set_again]
        rfl
      simp only [sIf, tBool, sSeq, sSet, x2, gr [some (.obj n), some (.v (.int m)), none, none, none, none] rfl, xC, xVar, valOf, gGt, gC2, gMod, gI2c, cMod, hg0, hm0, ne_eq, not_false_eq_true, Option.map_some, decide_true, if_true, List.getElem?_cons_zero, List.getElem?_cons_succ, List.set_cons_zero, List.set_cons_succ,
        p2 [some (.obj n), some (.v (.int m)), some (.v (.int (g.fmod m))), none, none, none] rfl rfl, sRet, retOf]
    · exact Int.fdiv_nonneg hg (by omega)
  · have hgz : g = 0 := by omega
    have tr := xKey_ev (i := 0) (e := [some (.obj n), some (.v (.int m)), none, none, none, none]) rfl hw1 (deck_turn _ _ _)
    have ce := xKey_ev (i := 0) (e := [some (.obj n), some (.v (.int m)), none, none, none, none]) rfl hw1 (deck_cells _ _ _)
    have hlp : (0 : Int) < ((cells.map PyData.int).length : Int) := by
      rw [List.length_map]
      have := List.length_pos_iff.mpr hc
      omega
    have hlz : ((cells.map PyData.int).length : Int) ≠ 0 := by omega
    have fm := fmod_in (a := t + 1) hlp
    obtain ⟨c, hcv⟩ := atI_ints cells ((t + 1).fmod ((cells.map PyData.int).length : Int)) fm.1 (by have := fm.2; rw [List.length_map] at this ⊢; exact this)
    have c1 : cMul 70001 (t + 1) = true := by unfold cMul; simp
    have fa := fmod_in (a := c) (show (0 : Int) < 2147483399 by decide)
    have c2 : cPow (c.fmod 2147483399 + 70001 * (t + 1) + 53) 3 = true := by
      unfold cPow
      simp only [Bool.and_eq_true, decide_eq_true_eq]
      refine ⟨⟨by decide, by decide⟩, ?_⟩
      omega
    generalize hmx : ((c.fmod 2147483399 + 70001 * (t + 1) + 53) ^ (3 : Int).toNat).fmod 2147483489 = mx
    have c3 : cMul mx 53147 = true := by unfold cMul; simp
    have c4 : cMul 6397 (t + 1) = true := by unfold cMul; simp
    have c5 : cMul (6397 * (t + 1)) (t + 1) = true := by
      unfold cMul
      have h1 : decide (-(2 ^ 64) < t + 1) = true := decide_eq_true (by omega)
      have h2 : decide (t + 1 < 2 ^ 64) = true := decide_eq_true (by omega)
      rw [h1, h2]
      simp
    have m0 : cMod (t + 1) ((cells.map PyData.int).length : Int) = true := decide_eq_true hlz
    have m1 : ∀ a, cMod a 2147483399 = true := fun _ => rfl
    have m2 : ∀ a, cMod a 2147483489 = true := fun _ => rfl
    have m3 : ∀ a, cMod a 2147483423 = true := fun _ => rfl
    have m4 : ∀ a, cMod a m = true := fun _ => decide_eq_true hm0
    have d1 : ∀ a, cDiv a 13 = true := fun _ => rfl
    refine ⟨(((mx * 53147 + 6397 * (t + 1) * (t + 1)).fmod 2147483423).fdiv 13).fmod m, g, ?_, (fmod_in (by omega)).1, (fmod_in (by omega)).2, hg⟩
    simp only [sIf, tBool, sSeq, sSet, x2, gr [some (.obj n), some (.v (.int m)), none, none, none, none] rfl, xC, xVar, valOf, gGt, gC2, hg0, Option.map_some, decide_false, sNx, sPar, aCons, aNil, tr, ce, List.getElem?_cons_zero, List.getElem?_cons_succ, List.set_cons_zero, List.set_cons_succ,
      xN, valsOf, gLen, gMod, gI2c, m0, m1, m2, m3, m4, d1, if_true, gIx, itemsOf, hcv, gMul, c1, gAdd, gPow, c2, hmx, c3, c4, c5, gDiv, sRet, retOf]
noncomputable def B_deck (K : PySem.W.Frag) : S1 := sSeq (sSet 1 (xC (.int 0)))
  (sSeq (sFor (iSeq (xScrCut K 0 oNone (oSome (xC (.int 57))))) (gN 2) (sIf (tBool (x2 gGe (xN gAbs (aCons (xVar 2) aNil)) (x2 gPow (xC (.int 10)) (xC (.int 18))))) (sSet 1 (x2 gAdd (x2 gMul (xVar 1) (xC (.int 83))) (xN gAbs (aCons (xVar 2) aNil)))) sNx))
  (sRet (xDispO [(.inr "cells", (x2 gAdd (xN gList (aCons (xScrCut K 0 oNone (oSome (xC (.int 57)))) aNil)) (xLst (aCons (x2 gAdd (xScrLen K 0) (xC (.int 23))) aNil)))), (.inr "turn", (xC (.int 0))), (.inr "great", (xVar 1))])))
noncomputable def F_deck (K : PySem.W.Frag) : List FA → Wd → Option (FA × Wd) := fnD 3 (B_deck K)
def deckBody : S1 := sIf (tBool (x2 gGe (xN gAbs (aCons (xVar 2) aNil)) (x2 gPow (xC (.int 10)) (xC (.int 18))))) (sSet 1 (x2 gAdd (x2 gMul (xVar 1) (xC (.int 83))) (xN gAbs (aCons (xVar 2) aNil)))) sNx
theorem deck_for {K : PySem.W.Frag} {ns : List Int} {w : Wd} : ∀ (ms : List Int) (g : Int) (x : Option SV), 0 ≤ g → isOwn (some x) = false → ∃ g' x', 0 ≤ g' ∧ forGo (gN 2) deckBody (ms.map .int) [some (.scr K ns), some (.v (.int g)), x] w = some (.nx [some (.scr K ns), some (.v (.int g')), x'] w)
  | [], g, x, h, _ => ⟨g, x, h, rfl⟩
  | a :: ms, g, x, h, hx => by
    have p : cPow 10 18 = true := by decide
    have c : cMul g 83 = true := by unfold cMul; simp
    have st : ∃ g1, 0 ≤ g1 ∧ deckBody [some (.scr K ns), some (.v (.int g)), some (.v (.int a))] w = some (.nx [some (.scr K ns), some (.v (.int g1)), some (.v (.int a))] w) := by
      by_cases hb : (10 : Int) ^ (18 : Int).toNat ≤ (if a < 0 then -a else a)
      · refine ⟨g * 83 + (if a < 0 then -a else a), ?_, ?_⟩
        · split <;> omega
        · simp only [deckBody, sIf, tBool, x2, xN, aCons, aNil, xVar, xC, valOf, valsOf, gAbs, gGe, gC2, gPow, gI2c, p, gAdd, gMul, c, Option.map_some, hb, decide_true, if_true, List.getElem?_cons_zero, List.getElem?_cons_succ, List.set_cons_zero, List.set_cons_succ, sSet]
      · refine ⟨g, h, ?_⟩
        simp only [deckBody, sIf, tBool, x2, xN, aCons, aNil, xVar, xC, valOf, valsOf, gAbs, gGe, gC2, gPow, gI2c, p, gAdd, gMul, c, Option.map_some, hb, decide_false, if_true, List.getElem?_cons_zero, List.getElem?_cons_succ, List.set_cons_zero, List.set_cons_succ, sNx]
    obtain ⟨g1, h1, q⟩ := st
    obtain ⟨g', x', h2, q2⟩ := deck_for (K := K) (ns := ns) (w := w) ms g1 (some (.v (.int a))) h1 rfl
    refine ⟨g', x', h2, ?_⟩
    rw [List.map_cons]
    unfold forGo gN
    rw [show ([some (SV.scr K ns), some (.v (.int g)), x][2]?) = some x from rfl, hx]
    simp only [Bool.false_eq_true, if_false, List.set_cons_zero, List.set_cons_succ, q]
    exact q2
theorem merge3 (c t g : PyData) : mergeD [] [(.inr "cells", c), (.inr "turn", t), (.inr "great", g)] = [(.inr "cells", c), (.inr "turn", t), (.inr "great", g)] := by
  simp [mergeD, putKD, k_ct, k_cg, k_tg]
theorem deck_ok {K : PySem.W.Frag} {ns : List Int} (w : Wd) (hl : ns.length ≤ 63) : ∃ cells g, F_deck K [.scr K ns] w = some (.obj w.length, w ++ [deckO cells 0 g]) ∧ cells ≠ [] ∧ cells.length ≤ 64 ∧ 0 ≤ g := by
  have hcut : ∃ ms : List Int, ms.length ≤ 63 ∧ cutD (ns.map PyData.int) none (some 57) = ms.map .int := by
    refine ⟨(ns.drop (HT.sIx (ns.map PyData.int).length 0 none)).take (HT.sIx (ns.map PyData.int).length (ns.map PyData.int).length (some 57) - HT.sIx (ns.map PyData.int).length 0 none), ?_, ?_⟩
    · rw [List.length_take, List.length_drop]
      omega
    · unfold cutD
      rw [← List.map_drop, ← List.map_take]
  obtain ⟨ms, hm, hc⟩ := hcut
  obtain ⟨g, x, hg, hf⟩ := deck_for (K := K) (ns := ns) (w := w) ms 0 none (Int.le_refl 0) rfl
  have hz : (ms.map PyData.int).length + 1 ≤ LIM := by
    rw [List.length_map]
    show ms.length + 1 ≤ 1000000
    omega
  refine ⟨ms ++ [(ns.length : Int) + 23], g, ?_, by simp, by rw [List.length_append]; show ms.length + 1 ≤ 64; omega, hg⟩
  unfold F_deck fnD B_deck
  simp only [startE, List.map_cons, List.map_nil, toSV, List.length_cons, List.length_nil, Nat.reduceAdd, Nat.reduceSub, List.replicate, List.cons_append, List.nil_append]
  have cut1 : ∀ e : DE, e[0]? = some (some (.scr K ns)) → xScrCut K 0 oNone (oSome (xC (.int 57))) e w = some (.v (.list (ms.map .int)), w) := fun e he => by
    simp only [xScrCut, he, if_true, oNone, oSome, xC, hc]
  have len1 : ∀ e : DE, e[0]? = some (some (.scr K ns)) → xScrLen K 0 e w = some (.v (.int ns.length), w) := fun e he => by
    simp only [xScrLen, he, if_true]
  have f1 : sFor (iSeq (xScrCut K 0 oNone (oSome (xC (.int 57))))) (gN 2) (sIf (tBool (x2 gGe (xN gAbs (aCons (xVar 2) aNil)) (x2 gPow (xC (.int 10)) (xC (.int 18))))) (sSet 1 (x2 gAdd (x2 gMul (xVar 1) (xC (.int 83))) (xN gAbs (aCons (xVar 2) aNil)))) sNx) [some (.scr K ns), some (.v (.int 0)), none] w = some (.nx [some (.scr K ns), some (.v (.int g)), x] w) := by
    unfold sFor iSeq
    rw [cut1 _ rfl]
    exact hf
  have e1 : sSet 1 (xC (.int 0)) [some (.scr K ns), none, none] w = some (.nx [some (.scr K ns), some (.v (.int 0)), none] w) := rfl
  unfold sSeq
  rw [e1]
  simp only []
  rw [f1]
  simp only [sRet, xDispO, dispGo, x2, xN, aCons, aNil, cut1 _ (show ([some (SV.scr K ns), some (.v (.int g)), x] : DE)[0]? = _ from rfl), len1 _ (show ([some (SV.scr K ns), some (.v (.int g)), x] : DE)[0]? = _ from rfl), valsOf, valOf, gList, Option.map_some, xC, gAdd, xLst, dataOf, hz, if_true, xVar, List.getElem?_cons_zero, List.getElem?_cons_succ, List.length_cons, List.length_nil, Nat.reduceAdd, Nat.reduceLeDiff, retOf]
  rw [merge3]
  unfold deckO
  rw [List.map_append]
  rfl
end DL
/-! ### loops and comprehensions, evaluated; rules drawn from the deck -/
namespace DL
open PySem PySem.Spec PyProof.Rows L2
theorem aCons_ev {f : X1} {fs : A1} {e : DE} {w w1 w2 : Wd} {r : RS} {rs : List RS} (h : f e w = some (r, w1)) (h2 : fs e w1 = some (rs, w2)) : aCons f fs e w = some (r :: rs, w2) := by
  simp only [aCons, h, h2]
theorem x2_ev {g : PyData → PyData → Option PyData} {f h : X1} {e : DE} {w w1 w2 : Wd} {c d z : PyData} (h1 : f e w = some (.v c, w1)) (h2 : h e w1 = some (.v d, w2)) (h3 : g c d = some z) : x2 g f h e w = some (.v z, w2) := by
  simp only [x2, h1, h2, valOf, h3, Option.map_some]
theorem xN_ev {g : List PyData → Option PyData} {fs : A1} {e : DE} {w w1 : Wd} {rs : List RS} {ds : List PyData} {z : PyData} (h1 : fs e w = some (rs, w1)) (h2 : valsOf e w1 rs = some ds) (h3 : g ds = some z) : xN g fs e w = some (.v z, w1) := by
  simp only [xN, h1, h2, h3, Option.map_some]
theorem xCallP_ev {F : List PyData → Option PyData} {fs : A1} {e : DE} {w w1 : Wd} {rs : List RS} {ds : List PyData} {z : PyData} (h1 : fs e w = some (rs, w1)) (hp : plainR rs = true) (h2 : valsOf e w1 rs = some ds) (h3 : F ds = some z) : xCallP F fs e w = some (.v z, w1) := by
  simp only [xCallP, h1, h2, h3, hp, Bool.true_or, if_true]
theorem xCallD_ev {F : List FA → Wd → Option (FA × Wd)} {fs : A1} {e : DE} {w w1 w2 : Wd} {rs : List RS} {as : List FA} {z : FA} (h1 : fs e w = some (rs, w1)) (h2 : argOf rs = some as) (h3 : F as w1 = some (z, w2)) : xCallD F fs e w = some (resOf z, w2) := by
  simp only [xCallD, h1, h2, h3]
theorem sSet_ev {i : Nat} {f : X1} {e : DE} {w w1 : Wd} {d : PyData} (h : f e w = some (.v d, w1)) : sSet i f e w = some (.nx (e.set i (some (.v d))) w1) := by
  simp only [sSet, h]
theorem sRet_ev {f : X1} {e : DE} {w w1 : Wd} {d : PyData} (h : f e w = some (.v d, w1)) : sRet f e w = some (.rt (.val d) w1) := by
  simp only [sRet, h, retOf]
theorem sIf_ev {t : T1} {s u : S1} {e : DE} {w w1 : Wd} {b : Bool} (h : t e w = some (b, w1)) : sIf t s u e w = if b then s e w1 else u e w1 := by
  simp only [sIf, h]
  cases b <;> rfl
theorem tBool_ev {f : X1} {e : DE} {w w1 : Wd} {b : Bool} (h : f e w = some (.v (.bool b), w1)) : tBool f e w = some (b, w1) := by
  simp only [tBool, h]
theorem xVar_ev {i : Nat} {e : DE} {w : Wd} {d : PyData} (h : e[i]? = some (some (.v d))) : xVar i e w = some (.v d, w) := by
  simp only [xVar, h]
theorem lcGo_pure {g : G1} {t : T1} {x : X1} {e0 : DE} {w : Wd} {E : PyData → DE} {b : PyData → Bool} {y : PyData → PyData} : ∀ (ds : List PyData), (∀ d ∈ ds, g d e0 = some (E d) ∧ t (E d) w = some (b d, w) ∧ (b d = true → x (E d) w = some (.v (y d), w))) →
    lcGo g t x e0 ds w = some ((ds.filter b).map y, w)
  | [], _ => rfl
  | d :: r, h => by
    obtain ⟨h1, h2, h3⟩ := h d (List.mem_cons_self ..)
    have ih := lcGo_pure (g := g) (t := t) (x := x) (e0 := e0) (w := w) (E := E) (b := b) (y := y) r fun d hd => h d (List.mem_cons_of_mem _ hd)
    unfold lcGo
    rw [h1]
    simp only [h2]
    cases q : b d with
    | false => simp only [ih, List.filter_cons, q, Bool.false_eq_true, if_false]
    | true => simp only [h3 q, ih, List.filter_cons, q, if_true, List.map_cons]
theorem xLc_pure {vs : List Nat} {it : I1} {g : G1} {t : T1} {x : X1} {e : DE} {w w1 : Wd} {ds : List PyData} {E : PyData → DE} {b : PyData → Bool} {y : PyData → PyData} (ho : okW e vs = true) (hi : it e w = some (ds, w1))
    (h : ∀ d ∈ ds, g d (wipeE e vs) = some (E d) ∧ t (E d) w1 = some (b d, w1) ∧ (b d = true → x (E d) w1 = some (.v (y d), w1))) : xLc vs it g t x e w = some (.v (.list ((ds.filter b).map y)), w1) := by
  simp only [xLc, ho, hi, lcGo_pure ds h, if_true]
/-- a turn changes the shared things: I, over what is left and what is made -/
theorem lcGo_inv {g : G1} {t : T1} {x : X1} {e0 : DE} (I : List PyData → List PyData → Wd → Prop)
    (st : ∀ d r acc w, I (d :: r) acc w → ∃ e1, g d e0 = some e1 ∧ ∃ b w1, t e1 w = some (b, w1) ∧ (b = false → I r acc w1) ∧ (b = true → ∃ d' w2, x e1 w1 = some (.v d', w2) ∧ I r (acc ++ [d']) w2)) :
    ∀ (ds acc : List PyData) (w : Wd), I ds acc w → ∃ r w', lcGo g t x e0 ds w = some (r, w') ∧ I [] (acc ++ r) w'
  | [], acc, w, h => ⟨[], w, rfl, by rw [List.append_nil]; exact h⟩
  | d :: r, acc, w, h => by
    obtain ⟨e1, h1, b, w1, h2, h3, h4⟩ := st d r acc w h
    cases b with
    | false =>
      obtain ⟨r', w', q1, q2⟩ := lcGo_inv I st r acc w1 (h3 rfl)
      refine ⟨r', w', ?_, q2⟩
      unfold lcGo
      simp only [h1, h2, q1]
    | true =>
      obtain ⟨d', w2, h5, h6⟩ := h4 rfl
      obtain ⟨r', w', q1, q2⟩ := lcGo_inv I st r (acc ++ [d']) w2 h6
      refine ⟨d' :: r', w', ?_, by rw [List.append_assoc] at q2; exact q2⟩
      unfold lcGo
      simp only [h1, h2, h5, q1]
theorem xLc_inv {vs : List Nat} {it : I1} {g : G1} {t : T1} {x : X1} {e : DE} {w w1 : Wd} {ds : List PyData} (I : List PyData → List PyData → Wd → Prop) (ho : okW e vs = true) (hi : it e w = some (ds, w1)) (h0 : I ds [] w1)
    (st : ∀ d r acc w, I (d :: r) acc w → ∃ e1, g d (wipeE e vs) = some e1 ∧ ∃ b w1, t e1 w = some (b, w1) ∧ (b = false → I r acc w1) ∧ (b = true → ∃ d' w2, x e1 w1 = some (.v d', w2) ∧ I r (acc ++ [d']) w2)) :
    ∃ r w', xLc vs it g t x e w = some (.v (.list r), w') ∧ I [] r w' := by
  obtain ⟨r, w', q1, q2⟩ := lcGo_inv I st ds [] w1 h0
  refine ⟨r, w', ?_, q2⟩
  simp only [xLc, ho, hi, q1, if_true]
theorem forGo_inv {g : G1} {s : S1} (I : List PyData → DE → Wd → Prop) (st : ∀ d r e w, I (d :: r) e w → ∃ e1, g d e = some e1 ∧ ∃ e2 w2, s e1 w = some (.nx e2 w2) ∧ I r e2 w2) :
    ∀ (ds : List PyData) (e : DE) (w : Wd), I ds e w → ∃ e' w', forGo g s ds e w = some (.nx e' w') ∧ I [] e' w'
  | [], e, w, h => ⟨e, w, rfl, h⟩
  | d :: r, e, w, h => by
    obtain ⟨e1, h1, e2, w2, h2, h3⟩ := st d r e w h
    obtain ⟨e', w', q1, q2⟩ := forGo_inv I st r e2 w2 h3
    refine ⟨e', w', ?_, q2⟩
    unfold forGo
    simp only [h1, h2]
    exact q1
theorem sFor_inv {it : I1} {g : G1} {s : S1} {e : DE} {w w1 : Wd} {ds : List PyData} (I : List PyData → DE → Wd → Prop) (hi : it e w = some (ds, w1)) (h0 : I ds e w1) (st : ∀ d r e w, I (d :: r) e w → ∃ e1, g d e = some e1 ∧ ∃ e2 w2, s e1 w = some (.nx e2 w2) ∧ I r e2 w2) :
    ∃ e' w', sFor it g s e w = some (.nx e' w') ∧ I [] e' w' := by
  obtain ⟨e', w', q1, q2⟩ := forGo_inv I st ds e w1 h0
  exact ⟨e', w', by unfold sFor; rw [hi]; exact q1, q2⟩
theorem sSeq_nx {s u : S1} {e e1 : DE} {w w1 : Wd} (h : s e w = some (.nx e1 w1)) : sSeq s u e w = u e1 w1 := by
  unfold sSeq
  rw [h]
theorem gN_ev {i : Nat} {d : PyData} {e : DE} (h : isOwn e[i]? = false) : gN i d e = some (e.set i (some (.v d))) := by
  unfold gN
  rw [h]
  rfl
theorem rangeL_succ (lo : Int) (n : Nat) : rangeL lo (n + 1) = .int lo :: rangeL (lo + 1) n := by
  unfold rangeL
  rw [List.range_succ_eq_map, List.map_cons, List.map_map]
  congr 1
  · simp
  · apply List.map_congr_left
    intro i _
    simp only [Function.comp_apply, Nat.succ_eq_add_one, Int.natCast_add]
    congr 1
    omega
theorem small_in {n : Int} (h : -1000000 ≤ n) (h2 : n ≤ 1000000) : smallI n = true := by
  unfold smallI
  simp [h, h2]
/-- the deck stands as the first shared thing, the only one, and has been drawn from at most so often -/
def Dk (T : Int) (w : Wd) : Prop := ∃ cells t g, w = [deckO cells t g] ∧ cells ≠ [] ∧ cells.length ≤ 64 ∧ 0 ≤ t ∧ t ≤ T ∧ 0 ≤ g
theorem Dk.mono {T T' : Int} {w : Wd} (h : Dk T w) (l : T ≤ T') : Dk T' w := by
  obtain ⟨c, t, g, h1, h2, h3, h4, h5, h6⟩ := h
  exact ⟨c, t, g, h1, h2, h3, h4, by omega, h6⟩
theorem take_call {T m : Int} {w : Wd} (D : Dk T w) (hT : T < 1000000000000) (hm : 1 ≤ m) (hm2 : m < 1073741824) : ∃ k w', F_take [.obj 0, .val (.int m)] w = some (.val (.int k), w') ∧ Dk (T + 1) w' ∧ 0 ≤ k ∧ k < m := by
  obtain ⟨c, t, g, rfl, h2, h3, h4, h5, h6⟩ := D
  obtain ⟨k, g', q1, q2, q3, q4⟩ := take_ok (n := 0) (w := [deckO c t g]) rfl h2 h3 h4 (by omega) h6 hm hm2
  exact ⟨k, _, q1, ⟨c, t + 1, g', rfl, h2, h3, by omega, by omega, q4⟩, q2, q3⟩
theorem deck_call {K : PySem.W.Frag} {ns : List Int} (hl : ns.length ≤ 63) : ∃ w', F_deck K [.scr K ns] [] = some (.obj 0, w') ∧ Dk 0 w' := by
  obtain ⟨c, g, q1, q2, q3, q4⟩ := deck_ok (K := K) [] hl
  exact ⟨_, q1, c, 0, g, rfl, q2, q3, Int.le_refl 0, Int.le_refl 0, q4⟩
end DL
namespace DL
open PySem PySem.Spec PyProof.Rows L2
theorem rangeL_nil (lo : Int) : rangeL lo 0 = [] := rfl
theorem rangeL_inv {d : PyData} {r : List PyData} {i : Int} {n : Nat} (h : d :: r = rangeL i n) : ∃ m, n = m + 1 ∧ d = .int i ∧ r = rangeL (i + 1) m := by
  cases n with
  | zero => rw [rangeL_nil] at h; cases h
  | succ m =>
    rw [rangeL_succ] at h
    cases h
    exact ⟨m, rfl, rfl, rfl⟩
theorem rangeL_end {i : Int} {n : Nat} (h : [] = rangeL i n) : n = 0 := by
  cases n with
  | zero => rfl
  | succ m => rw [rangeL_succ] at h; cases h
def B_rules : S1 := sSeq (sPat (gT (gC (gN 2) (gC (gN 3) gE))) (xTup (aCons (x2 gAdd (xC (.int 1)) (xCallD F_take (aCons (xVar 0) (aCons (xVar 1) aNil)))) (aCons (xCallD F_take (aCons (xVar 0) (aCons (xC (.int 5)) aNil))) aNil))))
  (sSeq (sOwn 4 (xLst aNil))
  (sSeq (sFor (iRange1 (xVar 2)) (gN 5) (sExtend 4 (xLc [6] (iRange2 (xVar 5) (xVar 2)) (gN 6) (tBool (x2 gLt (xCallD F_take (aCons (xVar 0) (aCons (xC (.int 5)) aNil))) (xVar 3))) (xTup (aCons (xVar 5) (aCons (xVar 6) aNil))))))
  (sRet (xTup (aCons (xVar 2) (aCons (xN gTuple (aCons (xVar 4) aNil)) aNil))))))
def F_rules : List FA → Wd → Option (FA × Wd) := fnD 7 B_rules
def dOf (p : Int × Int) : PyData := .tuple [.int p.1, .int p.2]
def lexlt (p q : Int × Int) : Prop := p.1 < q.1 ∨ (p.1 = q.1 ∧ p.2 < q.2)
/-- pairs as rules may have them -/
structure GoodP (a : Int) (ps : List (Int × Int)) : Prop where
  al : ∀ p ∈ ps, 0 ≤ p.1 ∧ p.1 ≤ p.2 ∧ p.2 < a
  pw : ps.Pairwise lexlt
def rulesD (a : Int) (ps : List (Int × Int)) : PyData := .tuple [.int a, .tuple (ps.map dOf)]
theorem take_ev {T m : Int} {w : Wd} (D : Dk T w) (hT : T < 1000000000000) (hm : 1 ≤ m) (hm2 : m < 1073741824) {f : X1} {e : DE} (he : e[0]? = some (some (.obj 0))) (hf : ∀ w, f e w = some (.v (.int m), w)) :
    ∃ k w', xCallD F_take (aCons (xVar 0) (aCons f aNil)) e w = some (.v (.int k), w') ∧ Dk (T + 1) w' ∧ 0 ≤ k ∧ k < m := by
  obtain ⟨k, w', q1, q2, q3, q4⟩ := take_call D hT hm hm2
  refine ⟨k, w', ?_, q2, q3, q4⟩
  simp only [xCallD, aCons, aNil, xVar, he, hf, argOf, Option.map_some, q1, resOf]
theorem rules_row {T i a near : Int} {w : Wd} {o : Option SV} {ps : List (Int × Int)} {m : Int} (D : Dk T w) (hT : T < 100000000000) (hi : 0 ≤ i) (hia : i < a) (ha : a ≤ 12) :
    ∃ (js : List Int) (w' : Wd), xLc [6] (iRange2 (xVar 5) (xVar 2)) (gN 6) (tBool (x2 gLt (xCallD F_take (aCons (xVar 0) (aCons (xC (.int 5)) aNil))) (xVar 3))) (xTup (aCons (xVar 5) (aCons (xVar 6) aNil)))
      [some (.obj 0), some (.v (.int m)), some (.v (.int a)), some (.v (.int near)), some (.own (ps.map dOf)), some (.v (.int i)), none] w = some (.v (.list (js.map fun k => dOf (i, k))), w') ∧ Dk (T + 12) w' ∧ (∀ k ∈ js, i ≤ k ∧ k < a) ∧ js.Pairwise (· < ·) ∧ (js.length : Int) ≤ a - i := by
  obtain ⟨r, w', q1, j, n, js, q2, q3, q4, rfl, q6, q7, q8, q9⟩ := xLc_inv (e := [some (.obj 0), some (.v (.int m)), some (.v (.int a)), some (.v (.int near)), some (.own (ps.map dOf)), some (.v (.int i)), none]) (w := w) (w1 := w) (ds := rangeL i (a - i).toNat)
    (vs := [6]) (it := iRange2 (xVar 5) (xVar 2)) (g := gN 6) (t := tBool (x2 gLt (xCallD F_take (aCons (xVar 0) (aCons (xC (.int 5)) aNil))) (xVar 3))) (x := xTup (aCons (xVar 5) (aCons (xVar 6) aNil)))
    (fun rest acc w => ∃ (j : Int) (n : Nat) (js : List Int), rest = rangeL j n ∧ j + n = a ∧ i ≤ j ∧ acc = js.map (fun k => dOf (i, k)) ∧ (∀ k ∈ js, i ≤ k ∧ k < j) ∧ js.Pairwise (· < ·) ∧ (js.length : Int) ≤ j - i ∧ Dk (T + (j - i)) w)
    rfl (by
      simp only [iRange2, xVar, List.getElem?_cons_zero, List.getElem?_cons_succ, small_in (show -1000000 ≤ i by omega) (show i ≤ 1000000 by omega), small_in (show -1000000 ≤ a by omega) (show a ≤ 1000000 by omega), show a - i ≤ 1000000 by omega, decide_true, Bool.and_self, if_true])
    ⟨i, (a - i).toNat, [], rfl, by omega, Int.le_refl _, rfl, by simp, .nil, by simp, by rw [Int.sub_self, Int.add_zero]; exact D⟩ (by
      rintro d r acc w ⟨j, n, js, h1, h2, h3, rfl, h5, h6, h7, h8⟩
      obtain ⟨n', rfl, rfl, rfl⟩ := rangeL_inv h1
      refine ⟨_, gN_ev rfl, ?_⟩
      obtain ⟨k, w1, q1, q2, q3, q4⟩ := take_ev (m := 5) h8 (by omega) (by decide) (by decide) (f := xC (.int 5)) (e := [some (.obj 0), some (.v (.int m)), some (.v (.int a)), some (.v (.int near)), some (.own (ps.map dOf)), some (.v (.int i)), some (.v (.int j))]) rfl fun _ => rfl
      refine ⟨decide (k < near), w1, ?_, fun _ => ?_, fun _ => ?_⟩
      · show tBool _ [some (.obj 0), some (.v (.int m)), some (.v (.int a)), some (.v (.int near)), some (.own (ps.map dOf)), some (.v (.int i)), some (.v (.int j))] w = _
        simp only [tBool, x2, q1, xVar, List.getElem?_cons_zero, List.getElem?_cons_succ, valOf, gLt, gC2, Option.map_some]
      · refine ⟨j + 1, n', js, rfl, by omega, by omega, rfl, fun k hk => ⟨(h5 k hk).1, by have := (h5 k hk).2; omega⟩, h6, by omega, ?_⟩
        exact q2.mono (by omega)
      · refine ⟨dOf (i, j), w1, ?_, j + 1, n', js ++ [j], rfl, by omega, by omega, by rw [List.map_append]; rfl, fun k hk => ?_, ?_, ?_, q2.mono (by omega)⟩
        · show xTup _ [some (.obj 0), some (.v (.int m)), some (.v (.int a)), some (.v (.int near)), some (.own (ps.map dOf)), some (.v (.int i)), some (.v (.int j))] w1 = _
          simp only [xTup, aCons, aNil, xVar, List.getElem?_cons_zero, List.getElem?_cons_succ, dataOf, Option.map_some, dOf]
        · rcases List.mem_append.mp hk with hk | hk
          · exact ⟨(h5 k hk).1, by have := (h5 k hk).2; omega⟩
          · rw [List.mem_singleton.mp hk]; omega
        · rw [List.pairwise_append]
          exact ⟨h6, by simp, fun x hx y hy => by rw [List.mem_singleton.mp hy]; exact (h5 x hx).2⟩
        · rw [List.length_append, List.length_singleton]
          omega)
  have hn := rangeL_end q2
  subst hn
  refine ⟨js, w', q1, q9.mono (by omega), fun k hk => ⟨(q6 k hk).1, by have := (q6 k hk).2; omega⟩, q7, by omega⟩
theorem map_pairs (i : Int) (js : List Int) : js.map (fun k => dOf (i, k)) = (js.map fun k => (i, k)).map dOf := by
  rw [List.map_map]
  rfl
theorem rules_ok {T m : Int} {w : Wd} (D : Dk T w) (hT : T < 10000000000) (hm : 1 ≤ m) (hm2 : m ≤ 12) : ∃ a ps w', F_rules [.obj 0, .val (.int m)] w = some (.val (rulesD a ps), w') ∧ Dk (T + 150) w' ∧ 1 ≤ a ∧ a ≤ m ∧ GoodP a ps ∧ (ps.length : Int) ≤ 144 := by
  obtain ⟨k1, w1, q1, D1, k1a, k1b⟩ := take_ev (m := m) D (by omega) hm (by omega) (f := xVar 1) (e := [some (.obj 0), some (.v (.int m)), none, none, none, none, none]) rfl fun _ => rfl
  obtain ⟨k2, w2, q2, D2, k2a, k2b⟩ := take_ev (m := 5) D1 (by omega) (by decide) (by decide) (f := xC (.int 5)) (e := [some (.obj 0), some (.v (.int m)), none, none, none, none, none]) rfl fun _ => rfl
  have s1 : sPat (gT (gC (gN 2) (gC (gN 3) gE))) (xTup (aCons (x2 gAdd (xC (.int 1)) (xCallD F_take (aCons (xVar 0) (aCons (xVar 1) aNil)))) (aCons (xCallD F_take (aCons (xVar 0) (aCons (xC (.int 5)) aNil))) aNil)))
      [some (.obj 0), some (.v (.int m)), none, none, none, none, none] w = some (.nx [some (.obj 0), some (.v (.int m)), some (.v (.int (1 + k1))), some (.v (.int k2)), none, none, none] w2) := by
    have t2 := aCons_ev (x2_ev (g := gAdd) (c := .int 1) (z := .int (1 + k1)) (f := xC (.int 1)) rfl q1 rfl) (aCons_ev q2 (show aNil _ w2 = some ([], w2) from rfl))
    simp only [sPat, xTup, t2, dataOf, Option.map_some, gT, gC, gE]
    rfl
  have s2 : sOwn 4 (xLst aNil) [some (.obj 0), some (.v (.int m)), some (.v (.int (1 + k1))), some (.v (.int k2)), none, none, none] w2 = some (.nx [some (.obj 0), some (.v (.int m)), some (.v (.int (1 + k1))), some (.v (.int k2)), some (.own []), none, none] w2) := rfl
  have s3 := sFor_inv (e := [some (.obj 0), some (.v (.int m)), some (.v (.int (1 + k1))), some (.v (.int k2)), some (.own []), none, none]) (w := w2) (w1 := w2) (ds := rangeL 0 (1 + k1).toNat) (it := iRange1 (xVar 2)) (g := gN 5)
    (s := sExtend 4 (xLc [6] (iRange2 (xVar 5) (xVar 2)) (gN 6) (tBool (x2 gLt (xCallD F_take (aCons (xVar 0) (aCons (xC (.int 5)) aNil))) (xVar 3))) (xTup (aCons (xVar 5) (aCons (xVar 6) aNil)))))
    (fun rest e w => ∃ (i : Int) (n : Nat) (ps : List (Int × Int)) (x : Option SV), rest = rangeL i n ∧ i + n = 1 + k1 ∧ 0 ≤ i ∧ e = [some (.obj 0), some (.v (.int m)), some (.v (.int (1 + k1))), some (.v (.int k2)), some (.own (ps.map dOf)), x, none] ∧ isOwn (some x) = false ∧
      (∀ p ∈ ps, 0 ≤ p.1 ∧ p.1 ≤ p.2 ∧ p.2 < 1 + k1 ∧ p.1 < i) ∧ ps.Pairwise lexlt ∧ (ps.length : Int) ≤ 12 * i ∧ Dk (T + 2 + 12 * i) w)
    (by simp only [iRange1, xVar, List.getElem?_cons_zero, List.getElem?_cons_succ, small_in (show -1000000 ≤ 1 + k1 by omega) (show 1 + k1 ≤ 1000000 by omega), if_true])
    ⟨0, (1 + k1).toNat, [], none, rfl, by omega, Int.le_refl 0, rfl, rfl, by simp, .nil, by simp, D2.mono (by omega)⟩ (by
      rintro d r e w ⟨i, n, ps, x, h1, h2, h3, rfl, hx, h5, h6, h7, h8⟩
      obtain ⟨n', rfl, rfl, rfl⟩ := rangeL_inv h1
      refine ⟨_, gN_ev (by exact hx), ?_⟩
      obtain ⟨js, w', r1, r2, r3, r4, r5⟩ := rules_row (a := 1 + k1) (near := k2) (o := x) (ps := ps) (m := m) h8 (by omega) h3 (by omega) (by omega)
      have hz : (ps.map dOf).length + (js.map fun k => dOf (i, k)).length ≤ LIM := by
        rw [List.length_map, List.length_map]
        show ps.length + js.length ≤ 1000000
        omega
      refine ⟨[some (.obj 0), some (.v (.int m)), some (.v (.int (1 + k1))), some (.v (.int k2)), some (.own ((ps ++ js.map fun k => (i, k)).map dOf)), some (.v (.int i)), none], w', ?_, i + 1, n', ps ++ js.map fun k => (i, k), some (.v (.int i)), rfl, by omega, by omega, rfl, rfl, fun p hp => ?_, ?_, ?_, r2.mono (by omega)⟩
      · show sExtend 4 _ [some (.obj 0), some (.v (.int m)), some (.v (.int (1 + k1))), some (.v (.int k2)), some (.own (ps.map dOf)), some (.v (.int i)), none] w = _
        simp only [sExtend, List.getElem?_cons_zero, List.getElem?_cons_succ, r1, hz, if_true, List.set_cons_zero, List.set_cons_succ]
        rw [List.map_append, map_pairs]
      · rcases List.mem_append.mp hp with hp | hp
        · have := h5 p hp
          exact ⟨this.1, this.2.1, this.2.2.1, by omega⟩
        · obtain ⟨k, hk, rfl⟩ := List.mem_map.mp hp
          have := r3 k hk
          exact ⟨h3, this.1, this.2, by show i < i + 1; omega⟩
      · rw [List.pairwise_append]
        refine ⟨h6, List.pairwise_map.mpr (r4.imp fun h => .inr ⟨rfl, h⟩), fun p hp q hq => ?_⟩
        obtain ⟨k, hk, rfl⟩ := List.mem_map.mp hq
        exact .inl (h5 p hp).2.2.2
      · rw [List.length_append, List.length_map]
        omega)
  obtain ⟨e3, w3, q3, i, n, ps, x, h1, h2, h3, rfl, hx, h5, h6, h7, h8⟩ := s3
  have hn := rangeL_end h1
  subst hn
  refine ⟨1 + k1, ps, w3, ?_, h8.mono (by omega), by omega, by omega, ⟨fun p hp => ⟨(h5 p hp).1, (h5 p hp).2.1, (h5 p hp).2.2.1⟩, h6⟩, by omega⟩
  unfold F_rules fnD B_rules
  show (match sSeq _ _ [some (.obj 0), some (.v (.int m)), none, none, none, none, none] w with | some (.rt r w') => some (r, w') | some (.nx _ w') => some (.val .none, w') | _ => none) = _
  rw [sSeq_nx s1, sSeq_nx s2, sSeq_nx q3]
  simp only [sRet, xTup, aCons, aNil, xVar, List.getElem?_cons_zero, List.getElem?_cons_succ, xN, valsOf, valOf, gTuple, Option.map_some, dataOf, retOf, rulesD]
end DL
/-! ### data whose numbers are small: it has a text, it can be compared -/
namespace DL
open PySem PySem.Spec PyProof.Rows L2
mutual
def tin : PyData → Bool
  | .none => true
  | .bool _ => true
  | .int i => decide (i.natAbs < 10 ^ 12)
  | .str x => PyData.strOk x
  | .list xs => tinA xs
  | .tuple xs => tinA xs
  | .dict _ => false
def tinA : List PyData → Bool
  | [] => true
  | d :: r => tin d && tinA r
end
theorem tinA_all : ∀ xs : List PyData, tinA xs = true ↔ ∀ d ∈ xs, tin d = true
  | [] => by simp [tinA]
  | d :: r => by simp [tinA, tinA_all r]
mutual
theorem tin_lay : ∀ d : PyData, tin d = true → d.canLay0 = true
  | .none, _ => by simp [PyData.canLay0]
  | .bool _, _ => by simp [PyData.canLay0]
  | .int _, _ => by simp [PyData.canLay0]
  | .str x, h => by simpa [PyData.canLay0, tin] using h
  | .list xs, h => by simp only [PyData.canLay0]; exact tinA_lay xs (by simpa [tin] using h)
  | .tuple xs, h => by simp only [PyData.canLay0]; exact tinA_lay xs (by simpa [tin] using h)
  | .dict _, h => by simp [tin] at h
theorem tinA_lay : ∀ xs : List PyData, tinA xs = true → PyData.canLayAll0 xs = true
  | [], _ => by simp [PyData.canLayAll0]
  | d :: r, h => by
    simp only [tinA, Bool.and_eq_true] at h
    simp only [PyData.canLayAll0, Bool.and_eq_true]
    exact ⟨tin_lay d h.1, tinA_lay r h.2⟩
end
mutual
theorem tin_show : ∀ d : PyData, tin d = true → d.showable = true
  | .none, _ => by simp [PyData.showable]
  | .bool _, _ => by simp [PyData.showable]
  | .int i, h => by
    simp only [tin, decide_eq_true_eq] at h
    simp only [PyData.showable, decide_eq_true_eq]
    by_cases hz : i.natAbs = 0
    · rw [hz]; decide
    · have := (Nat.log2_lt hz (k := 40)).mpr (by omega)
      omega
  | .str x, h => by simp [PyData.showable]
  | .list xs, h => by simp only [PyData.showable]; exact tinA_show xs (by simpa [tin] using h)
  | .tuple xs, h => by simp only [PyData.showable]; exact tinA_show xs (by simpa [tin] using h)
  | .dict _, h => by simp [tin] at h
theorem tinA_show : ∀ xs : List PyData, tinA xs = true → PyData.showableAll xs = true
  | [], _ => by simp [PyData.showableAll]
  | d :: r, h => by
    simp only [tinA, Bool.and_eq_true] at h
    simp only [PyData.showableAll, Bool.and_eq_true]
    exact ⟨tin_show d h.1, tinA_show r h.2⟩
end
mutual
theorem tin_short : ∀ d : PyData, tin d = true → d.intsShort 13 = true
  | .none, _ => by simp [PyData.intsShort]
  | .bool _, _ => by simp [PyData.intsShort]
  | .int i, h => by
    simp only [tin, decide_eq_true_eq] at h
    simp only [PyData.intsShort, decide_eq_true_eq]
    exact PyData.shown_int_le h
  | .str x, h => by simp [PyData.intsShort]
  | .list xs, h => by simp only [PyData.intsShort]; exact tinA_short xs (by simpa [tin] using h)
  | .tuple xs, h => by simp only [PyData.intsShort]; exact tinA_short xs (by simpa [tin] using h)
  | .dict _, h => by simp [tin] at h
theorem tinA_short : ∀ xs : List PyData, tinA xs = true → PyData.intsShortAll 13 xs = true
  | [], _ => by simp [PyData.intsShortAll]
  | d :: r, h => by
    simp only [tinA, Bool.and_eq_true] at h
    simp only [PyData.intsShortAll, Bool.and_eq_true]
    exact ⟨tin_short d h.1, tinA_short r h.2⟩
end
theorem tin_shaped {d : PyData} (h : tin d = true) (hd : d.depth ≤ 64) : SeqAt.shaped d = true := Bool.and_eq_true_iff.mpr ⟨tin_lay d h, decide_eq_true hd⟩
theorem tin_rep {d : PyData} (h : tin d = true) (hd : d.depth ≤ 64) (hw : d.weight ≤ 2 ^ 20) : repOk d = true := by
  have l : PyData.layable0 d = true := by
    unfold PyData.layable0
    simp only [Bool.and_eq_true, decide_eq_true_eq]
    exact ⟨⟨tin_lay d h, hd⟩, hw⟩
  have s := shown_le13 l (tin_short d h)
  unfold repOk
  simp only [Bool.and_eq_true, decide_eq_true_eq]
  refine ⟨⟨⟨lay_noDict d (tin_lay d h), tin_show d h⟩, hd⟩, ?_⟩
  have : sizeLine = 16777216 := by decide
  omega
theorem depthA_le {B : Nat} : ∀ xs : List PyData, (∀ d ∈ xs, d.depth ≤ B) → PyData.depthAll xs ≤ B
  | [], _ => by simp [PyData.depthAll]
  | d :: r, h => by
    simp only [PyData.depthAll]
    have h1 := h d (List.mem_cons_self ..)
    have h2 := depthA_le r fun d hd => h d (List.mem_cons_of_mem _ hd)
    omega
theorem weightA_le {B : Nat} : ∀ xs : List PyData, (∀ d ∈ xs, d.weight ≤ B) → PyData.weightAll xs ≤ xs.length * (B + 1)
  | [], _ => by simp [PyData.weightAll]
  | d :: r, h => by
    simp only [PyData.weightAll, List.length_cons]
    have h1 := h d (List.mem_cons_self ..)
    have h2 := weightA_le r fun d hd => h d (List.mem_cons_of_mem _ hd)
    rw [Nat.succ_mul]
    omega
theorem depth_tup {B : Nat} {xs : List PyData} (h : ∀ d ∈ xs, d.depth ≤ B) : (PyData.tuple xs).depth ≤ B + 1 := by
  simp only [PyData.depth]
  have := depthA_le xs h
  omega
theorem depth_lst {B : Nat} {xs : List PyData} (h : ∀ d ∈ xs, d.depth ≤ B) : (PyData.list xs).depth ≤ B + 1 := by
  simp only [PyData.depth]
  have := depthA_le xs h
  omega
theorem weight_int {i : Int} (h : i.natAbs < 10 ^ 12) : (PyData.int i).weight ≤ 64 := by
  simp only [PyData.weight]
  split
  · omega
  · rename_i hz
    have hz' : i.natAbs ≠ 0 := by
      intro q
      have : i = 0 := by omega
      simp [this] at hz
    have := (Nat.log2_lt hz' (k := 40)).mpr (by omega)
    omega
/-! pairs and rows of numbers -/
theorem eqv_int (i j : Int) : PyData.eqv (.int i) (.int j) = (i == j) := by simp [PyData.eqv]
theorem eqv_dOf (p q : Int × Int) : PyData.eqv (dOf p) (dOf q) = decide (p = q) := by
  obtain ⟨a, b⟩ := p
  obtain ⟨c, d⟩ := q
  simp only [dOf, PyData.eqv, PyData.eqvAll, Bool.and_true]
  rw [Bool.eq_iff_iff]
  simp
theorem tin_dOf {p : Int × Int} (h1 : 0 ≤ p.1) (h2 : p.1 ≤ p.2) (h3 : p.2 < 100) : tin (dOf p) = true := by
  simp only [dOf, tin, tinA, Bool.and_true, Bool.and_eq_true, decide_eq_true_eq]
  omega
theorem depth_dOf (p : Int × Int) : (dOf p).depth = 1 := by simp [dOf, PyData.depth, PyData.depthAll]
end DL
/-! ### isinstance; dicts as they are; sets of numbers, sorted; tuples of ranges -/
namespace DL
open PySem PySem.Spec PyProof.Rows L2
section
variable {X : Cx} {x e : Expr} {pos p1 p2 : Pos} {f : X1}
def tyN : PyData → String
  | .none => "NoneType"
  | .bool _ => "bool"
  | .int _ => "int"
  | .str _ => "str"
  | .list _ => "list"
  | .tuple _ => "tuple"
  | .dict _ => "dict"
theorem tyX_of {K : PySem.W.Frag} {M : Addr → Prop} {H : Hp} {v : V} {d : PyData} (h : Dv0 M H v d) : TyX K H v (.type (tyN d)) := by
  rcases h with h | ⟨a, xs, ds, rfl, rfl, h, _⟩
  · cases h with
    | atm a =>
      cases a with
      | non => exact .base .non
      | bl b => exact .base (.bl b)
      | int i => exact .base (.int i)
      | str s => exact .base (.str s)
    | lst _ r _ _ =>
      rcases r with r | ⟨o, r⟩
      · exact .base (.lst r)
      · exact .base (.frz r)
    | tup _ r _ _ => exact .base (.tup r)
    | dct _ r _ _ =>
      rcases r with r | ⟨o, r⟩
      · exact .base (.dK r)
      · exact .fDict r
    | dcm _ r _ _ _ =>
      rcases r with r | ⟨o, r⟩
      · exact .base (.dK r)
      · exact .fDict r
  · exact .base (.lst h)
/-- is d of the built-in type T -/
def gIsi (T : String) (d : PyData) : Option PyData := (kitB (tyN d) T).map .bool
theorem p_isi {K : PySem.W.Frag} {T : String} : Pure1 (fun v H Q => rIsi K [v, .ty T] H Q) (gIsi T) := fun M H x d z Q hm hx hg k => by
  cases h3 : kitB (tyN d) T with
  | none => simp [gIsi, h3] at hg
  | some b =>
    simp only [gIsi, h3, Option.map_some] at hg
    cases hg
    exact ⟨x, _, _, _, b, rfl, .ty T, tyX_of hx, kit_ty h3, k _ H (fun _ _ h => h) (.atm (.bl b))⟩
theorem d_isi {T : String} {n : Str} {p : Pos} (hg : Gl X "isinstance") (hm : X.mg "isinstance" = none) (hgT : Gl X n) (hmT : X.mg n = none) (hvT : bootBuiltins n = some (.type T)) (a : PE X x (tD f))
    (hn : n ≠ "__name__" := by decide) (hdb : (n == ("__debug__" : Str)) = false := by decide)
    (he : starEach [x, .Name n p2] X.env = (false, eval x X.env) :: starEach [.Name n p2] X.env := by rfl) (he2 : starEach [.Name n p2] X.env = (false, eval (.Name n p2) X.env) :: starEach [] X.env := by rfl) (hpl : (backTo pos (starEach [.Name n p2] X.env)).any (·.1) = false := by rfl) :
    PE X (.Call (.Name "isinstance" p) [x, .Name n p2] [] pos) (tD (x1 (gIsi T) f)) :=
  (pe_callB call_isi hg hm boot_isinstance_ (pa_cons a (pa_cons (pe_bltn hgT hmT hvT (v := .ty T) rfl hn hdb) pa_nil he2) he) (by decide) (by decide) he hpl).imp fun _ _ _ q => step1 p_isi q
/-! dicts as data -/
theorem d_dict0 : PE X (.Dict [] [] pos) (tD (xC (.dict []))) := pe_dnewK.imp fun σ H Q q => by
  obtain ⟨P, α, e, w, r, w', R, hf, k⟩ := q
  cases hf
  intro p hp
  exact k _ _ α (.of_same (same_upd hp)) (R.same (same_upd hp)) (.dct (fresh_mut R.mut hp) (.inl upd_same) (Nat.zero_le _) .nil)
theorem d_dict1 {k : Str} {i : Int} {j1 j2 : Nat} {q1 q2 : Pos} : PE X (.Dict [some (.Constant (.str k) j1 q1)] [.Constant (.int i) j2 q2] pos) (tD (xC (.dict [(.str k, .int i)]))) :=
  (pe_disp (trs := [(tC (.str k), tC (.int i))]) (pps_cons pe_str pe_int pps_nil) rfl rfl (by simp) (by simp)).imp fun σ H Q q => by
    obtain ⟨P, α, e, w, r, w', R, hf, k'⟩ := q
    cases hf
    intro p hp
    refine ⟨upd_same, [(.inr k, .int i)], rfl, by simp, ?_⟩
    have e1 : upd (upd H p (.dK [])) p (.dK (mergeK [] [(.inr k, .int i)])) = upd H p (.dK [(.inr k, .int i)]) := upd_upd
    rw [e1]
    exact k' _ _ α (.of_same (same_upd hp)) (R.same (same_upd hp)) (.dct (fresh_mut R.mut hp) (.inl upd_same) (by show 1 ≤ 1000000; decide) (.cons ⟨rfl, .int i⟩ .nil))
/-! tuple(range(n)) -/
def gTupRg : PyData → Option PyData
  | .int n => if smallI n then some (.tuple (rangeL 0 n.toNat)) else none
  | _ => none
theorem rg_dv {M : Addr → Prop} {H : Hp} (n : Int) : DvA M H (rgV 0 n) (rangeL 0 n.toNat) := by
  unfold rgV rangeL
  rw [Int.sub_zero]
  generalize List.range n.toNat = l
  induction l with
  | nil => exact .nil
  | cons a r ih => exact .cons (.atm (.int _)) ih
theorem p_tupRg : Pure1 (fun v H Q => ∃ n : Int, v = .int n ∧ RgOk 0 n ∧ ∀ q, H q = none → Q (.ref q) (upd H q (.tup (rgV 0 n)))) gTupRg := fun M H x d z Q hm hx hg k => by
  match d, hx, hg with
  | .int n, hx, hg =>
    by_cases h : smallI n = true
    · simp only [gTupRg, h, if_true] at hg
      cases hg
      have h' := h
      unfold smallI at h'
      simp only [Bool.and_eq_true, decide_eq_true_eq] at h'
      refine ⟨n, hx.int, ⟨by decide, by decide, by omega, by omega, by omega⟩, fun q hq => k _ _ (same_upd hq) (new_tup hm hq (rg_dv n) ?_)⟩
      rw [rangeL_len]
      show n.toNat ≤ 1000000
      omega
    · simp [gTupRg, h] at hg
theorem d_tupRg {p p3 pos2 : Pos} (hc : X.calm = true) (hg : Gl X "tuple") (hm : X.mg "tuple" = none) (hg2 : Gl X "range") (hm2 : X.mg "range" = none) (a : PE X x (tD f))
    (na : starEach [.Call (.Name "range" p3) [x] [] pos2] X.env = (false, eval (.Call (.Name "range" p3) [x] [] pos2) X.env) :: starEach [] X.env := by rfl) (nb : starEach [x] X.env = (false, eval x X.env) :: starEach [] X.env := by rfl) :
    PE X (.Call (.Name "tuple" p) [.Call (.Name "range" p3) [x] [] pos2] [] pos) (tD (x1 gTupRg f)) :=
  (pe_tupRg hc hg hm (prg_1 hg2 hm2 a nb) na).imp fun σ H Q q => step1 p_tupRg q
/-! sorted(set(t)), t a tuple of numbers -/
def insD (n : Int) : List Int → List Int
  | [] => [n]
  | m :: r => if n < m then n :: m :: r else if n = m then m :: r else m :: insD n r
def setD (ns : List Int) : List Int := ns.foldr insD []
theorem insD_mem (n k : Int) : ∀ l : List Int, k ∈ insD n l ↔ k = n ∨ k ∈ l
  | [] => by simp [insD]
  | m :: r => by
    unfold insD
    split
    · simp
    · split
      · rename_i h
        subst h
        simp
      · simp only [List.mem_cons, insD_mem n k r]
        constructor
        · rintro (h | h | h)
          · exact .inr (.inl h)
          · exact .inl h
          · exact .inr (.inr h)
        · rintro (h | h | h)
          · exact .inr (.inl h)
          · exact .inl h
          · exact .inr (.inr h)
theorem insD_pw (n : Int) : ∀ l : List Int, l.Pairwise (· < ·) → (insD n l).Pairwise (· < ·)
  | [], _ => by simp [insD]
  | m :: r, h => by
    obtain ⟨h1, h2⟩ := List.pairwise_cons.mp h
    unfold insD
    split
    · rename_i hn
      exact List.pairwise_cons.mpr ⟨fun x hx => by
        rcases List.mem_cons.mp hx with rfl | hx
        · exact hn
        · exact Int.lt_trans hn (h1 x hx), h⟩
    · split
      · exact h
      · refine List.pairwise_cons.mpr ⟨fun x hx => ?_, insD_pw n r h2⟩
        rcases (insD_mem n x r).mp hx with rfl | hx
        · omega
        · exact h1 x hx
theorem setD_mem (k : Int) : ∀ ns : List Int, k ∈ setD ns ↔ k ∈ ns
  | [] => by simp [setD]
  | n :: r => by
    have := setD_mem k r
    unfold setD at this ⊢
    rw [List.foldr_cons, insD_mem, this, List.mem_cons]
theorem setD_pw : ∀ ns : List Int, (setD ns).Pairwise (· < ·)
  | [] => .nil
  | n :: r => by
    unfold setD
    rw [List.foldr_cons]
    exact insD_pw n _ (setD_pw r)
theorem sorted_one : ∀ {a b : List Int}, a.Pairwise (· < ·) → b.Pairwise (· < ·) → (∀ k, k ∈ a ↔ k ∈ b) → a = b
  | [], [], _, _, _ => rfl
  | [], y :: b, _, _, h => by have := (h y).mpr (List.mem_cons_self ..); cases this
  | x :: a, [], _, _, h => by have := (h x).mp (List.mem_cons_self ..); cases this
  | x :: a, y :: b, ha, hb, h => by
    obtain ⟨a1, a2⟩ := List.pairwise_cons.mp ha
    obtain ⟨b1, b2⟩ := List.pairwise_cons.mp hb
    have e : x = y := by
      rcases List.mem_cons.mp ((h x).mp (List.mem_cons_self ..)) with e | m
      · exact e
      · rcases List.mem_cons.mp ((h y).mpr (List.mem_cons_self ..)) with e | m2
        · exact e.symm
        · have := b1 x m
          have := a1 y m2
          omega
    subst e
    rw [sorted_one a2 b2 fun k => ?_]
    have hk := h k
    constructor
    · intro m
      rcases List.mem_cons.mp (hk.mp (List.mem_cons_of_mem _ m)) with e | m2
      · have := a1 k m
        omega
      · exact m2
    · intro m
      rcases List.mem_cons.mp (hk.mpr (List.mem_cons_of_mem _ m)) with e | m2
      · have := b1 k m
        omega
      · exact m2
def intsD : List PyData → Option (List Int)
  | [] => some []
  | .int i :: r => (intsD r).map (i :: ·)
  | _ :: _ => none
theorem intsD_map : ∀ ns : List Int, intsD (ns.map .int) = some ns
  | [] => rfl
  | n :: r => by simp only [List.map_cons, intsD, intsD_map r, Option.map_some]
theorem intsD_eq : ∀ {ds : List PyData} {ns : List Int}, intsD ds = some ns → ds = ns.map .int
  | [], ns, h => by cases h; rfl
  | .int i :: r, ns, h => by
    cases q : intsD r with
    | none => simp [intsD, q] at h
    | some ms =>
      simp only [intsD, q, Option.map_some] at h
      cases h
      rw [intsD_eq q]
      rfl
  | .none :: _, _, h => by simp [intsD] at h
  | .bool _ :: _, _, h => by simp [intsD] at h
  | .str _ :: _, _, h => by simp [intsD] at h
  | .list _ :: _, _, h => by simp [intsD] at h
  | .tuple _ :: _, _, h => by simp [intsD] at h
  | .dict _ :: _, _, h => by simp [intsD] at h
theorem ints_v {M : Addr → Prop} {H : Hp} : ∀ {xs : List V} {ns : List Int}, DvA M H xs (ns.map .int) → xs = ns.map V.int
  | _, [], h => by cases h; rfl
  | _, n :: r, h => by
    cases h with
    | cons a b =>
      rw [int_of a, ints_v b]
      rfl
theorem dva_ints {M : Addr → Prop} {H : Hp} : ∀ ns : List Int, DvA M H (ns.map V.int) (ns.map .int)
  | [] => .nil
  | n :: r => .cons (.atm (.int n)) (dva_ints r)
def rSetT (K : PySem.W.Frag) (w : World) : List V → Hp → VK → Prop := fun xs H Q => ∃ (t : Addr) (ns : List Int), xs = [.ref t] ∧ SqT K H t (ns.map V.int) ∧ ns.length < 60 ∧ ∀ p c, H p = none → c ≤ ns.length → Q (.ref p) (upd H p (SetO w p (fun j => decide (j ∈ ns)) c))
theorem cr_setT (hc : X.calm = true) : CallR X (.type "set") (rSetT X.K X.w) := by
  intro pins s σ H xs us Q I r h
  obtain ⟨t, ns, rfl, hs, hl, q⟩ := h
  obtain ⟨its, rv, ht, hz⟩ := I.tuple hs
  rw [Vals.ref1 r]
  refine call_set_tupI ns (I.ok.hd hc) ht (by simpa using rv.ints) (by have : scanBound = scanBound := rfl; show ns.length + 1 < scanBound; exact Nat.lt_of_lt_of_le (show ns.length + 1 < 64 by omega) (by decide)) fun h' tk c R hc2 keep => ?_
  exact ⟨.ref _, upd H s.heap.objs.size (SetO X.w s.heap.objs.size (fun j => decide (j ∈ ns)) c), I.laid (t' := tk) keep (Nat.le_refl _) (setO_new R), rfl, q _ c (I.hok.fresh (Nat.le_refl _)) hc2⟩
def gSortSet : PyData → Option PyData
  | .tuple ds => match intsD ds with
    | some ns => if ns.length < 60 then some (.list ((setD ns).map .int)) else none
    | none => none
  | _ => none
theorem p_sortSet {K : PySem.W.Frag} {w : World} : Pure1 (fun v H Q => rSetT K w [v] H fun v2 H2 => rSortedSet w [v2] H2 Q) gSortSet := fun M H x d z Q hm hx hg k => by
  match d, hx, hg with
  | .tuple ds, hx, hg =>
    unfold gSortSet at hg
    simp only at hg
    cases h1 : intsD ds with
    | none => simp [h1] at hg
    | some ns =>
      simp only [h1] at hg
      by_cases h2 : ns.length < 60
      · rw [if_pos h2] at hg
        cases hg
        obtain ⟨t, xs, rfl, n, rd, q, l⟩ := hx.tup
        rw [intsD_eq h1] at q
        rw [ints_v q] at rd
        refine ⟨t, ns, rfl, .inl rd, h2, fun p c hp hc => ?_⟩
        refine ⟨p, _, c, rfl, upd_same, by omega, fun ms p2 h3 h4 h5 hp2 => ?_⟩
        have e : ms = setD ns := sorted_one h3 (setD_pw ns) fun k => by rw [h4, setD_mem]; simp
        subst e
        have sm1 : Same H (upd H p (SetO w p (fun j => decide (j ∈ ns)) c)) := same_upd hp
        have sm2 := same_upd (o := .lst ((setD ns).map V.int)) hp2
        refine k _ _ (fun b o e => sm2 b o (sm1 b o e)) (.lst (fun m => ?_) (.inl upd_same) ?_ (dva_ints _))
        · have hpp : H p2 = none := by
            by_cases hb : p2 = p
            · rw [hb]; exact hp
            · rw [upd_ne hb] at hp2; exact hp2
          exact fresh_mut hm hpp m
        · rw [List.length_map]
          have : (setD ns).length = c := h5
          show (setD ns).length ≤ 1000000
          omega
      · rw [if_neg h2] at hg; cases hg
theorem d_sortSet {p q pos2 : Pos} (hc : X.calm = true) (hg : Gl X "sorted") (hm : X.mg "sorted" = none) (hg2 : Gl X "set") (hm2 : X.mg "set" = none) (a : PE X x (tD f))
    (na : starEach [.Call (.Name "set" q) [x] [] pos2] X.env = (false, eval (.Call (.Name "set" q) [x] [] pos2) X.env) :: starEach [] X.env := by rfl) (nb : starEach [x] X.env = (false, eval x X.env) :: starEach [] X.env := by rfl)
    (ha : (backTo pos (starEach [] X.env)).any (·.1) = false := by rfl) (hb : (backTo pos2 (starEach [] X.env)).any (·.1) = false := by rfl) :
    PE X (.Call (.Name "sorted" p) [.Call (.Name "set" q) [x] [] pos2] [] pos) (tD (x1 gSortSet f)) :=
  (pe_callB (cr_sortedSet hc) hg hm boot_sorted_ (pa_cons (pe_callTy (cr_setT hc) hg2 hm2 boot_set_ (pa_cons a pa_nil nb) (by decide) (by decide) nb hb) pa_nil na) (by decide) (by decide) na ha).imp fun σ H Q q => step1 p_sortSet q
end
end DL
/-! ### t[::-1], t a tuple -/
namespace HT
open PySem PySem.Spec PySem.Calls PyProof.Rows
section
variable {prog : Program} {w : World} {A : Around} {E : Value → Shared → Prop} {s : Shared}
theorem places_back (n : Nat) : Builtin.Slice.slicePlaces ((n : Int) - 1) (-1) (-1) = n := by
  cases n with
  | zero => rfl
  | succ k =>
    have e : ((k + 1 : Nat) : Int) - 1 = (k : Int) := by omega
    rw [e]
    show (if (-1 : Int) > 0 then _ else if (k : Int) > -1 then ((k : Int) - -1 - 1) / (- -1) + 1 else 0).toNat = _
    rw [if_neg (by decide), if_pos (show (k : Int) > -1 by omega), show ((k : Int) - -1 - 1) = k by omega, show (- -1 : Int) = 1 from rfl, Int.ediv_one]
    omega
theorem sliceApplied_back {sl : Addr} {vs : Value} {n : Nat} {Q : Int × Int × Nat → Shared → Prop} (hs : s.heap.IsSliceOf sl .none .none vs) (ps : IsPart vs (some (-1))) (h : Q (((n : Int) - 1), -1, n) s) :
    wpAny (model prog w) A (Builtin.Slice.sliceApplied (.ref sl) (pure ((n : Nat) : Int))) Q E s := by
  rcases hs with ⟨_, at', _, parts⟩
  delta Builtin.Slice.sliceApplied
  have last : wpAny (model prog w) A (pure (((n : Int) - 1), (-1 : Int), Builtin.Slice.slicePlaces ((n : Int) - 1) (-1) (-1)) : Sem (Int × Int × Nat)) Q E s := by
    rw [places_back]
    exact wpAny_pure h
  have three : wpAny (model prog w) A (Builtin.Slice.sliceFields (.ref sl)) (fun r s' => r = (.none, .none, vs) ∧ s' = s) E s := by
    delta Builtin.Slice.sliceFields
    exact wpAny_bind (wpAny_field at' parts rfl (wpAny_bind (wpAny_field at' parts rfl (wpAny_bind (wpAny_field at' parts rfl (wpAny_pure ⟨rfl, rfl⟩))))))
  refine wpAny_bind (wpAny_mono three (fun r s' q => ?_) fun _ _ q => q)
  rcases q with ⟨rfl, rfl⟩
  refine wpAny_bind (slicePart_ ps ?_)
  show wpAny _ _ (if ((-1 : Int) == 0) = true then _ else _) _ _ s'
  rw [if_neg (show ¬ ((-1 : Int) == 0) = true by decide)]
  exact wpAny_bind (slicePart_none (wpAny_bind (slicePart_none (wpAny_bind (wpAny_pure last)))))
theorem fm_congr {α β : Type} {f g : α → Option β} : ∀ {l : List α}, (∀ x ∈ l, f x = g x) → l.filterMap f = l.filterMap g
  | [], _ => rfl
  | x :: l, h => by
    rw [List.filterMap_cons, List.filterMap_cons, h x (List.mem_cons_self ..), fm_congr fun y hy => h y (List.mem_cons_of_mem _ hy)]
theorem pick_back (xs : Array Value) : ((List.range xs.size).filterMap fun (m : Nat) => xs[(((xs.size : Int) - 1) + (m : Int) * -1).toNat]?).toArray = xs.toList.reverse.toArray := by
  have e : ((List.range xs.size).filterMap fun (m : Nat) => xs[(((xs.size : Int) - 1) + (m : Int) * -1).toNat]?) = (List.range xs.size).filterMap fun m => xs[xs.size - 1 - m]? := by
    refine fm_congr fun m hm => ?_
    have := List.mem_range.mp hm
    congr 1
    omega
  rw [e, show (fun m => xs[xs.size - 1 - m]?) = (xs[·]?) ∘ fun m => xs.size - 1 - m from rfl, ← List.filterMap_map, PySem.W.krv_range, List.filterMap_reverse, PySem.W.krv_all]
theorem getItem_tuple_back {t sl : Addr} {items : Array Value} {vs : Value} {Q : Value → Shared → Prop} (ht : IsTup s.heap t items) (hs : s.heap.IsSliceOf sl .none .none vs) (ps : IsPart vs (some (-1)))
    (h : Q (.ref s.heap.objs.size) { s with heap := s.heap.push { cls := .type "tuple", data := .seq items.toList.reverse.toArray } }) (hsz : items.size ≤ sizeLine) : wpAny (model prog w) A (getItem (.ref t) (.ref sl)) Q E s := by
  have ok : sizeOk (.seq items.toList.reverse.toArray) := show items.toList.reverse.toArray.size ≤ sizeLine by
    rw [List.size_toArray, List.length_reverse, Array.length_toList]; exact hsz
  have isSl : s.TypeIs (.ref sl) "slice" := hs.elim fun o q => ⟨o, q.1, q.2.1⟩
  have other : ¬ ((((items.size : Int) - 1) == 0 && (-1 : Int) == 1 && items.size == items.size) = true) := by simp
  delta getItem
  (try with_reducible refine wpAny_holding ?_); (first | refine wpAny_bind (wpAny_pure ?_) | skip)
  refine wpAny_bind (wpAny_sequenceKey ht.typeIs (by decide) (wpAny_bind (wpAny_callSpecial?_slot (name := Str.ofString "__getitem__") ht.typeIs PyProof.Rows.slot_tuple_getitem (wpAny_call_entry PyProof.Rows.slot_tuple_getitem ht.typeIs entry_tuple_getitem ?_ (args_tuple_getitem _ _)))))
  show wpAny _ _ (Builtin.Tuple.tupleItemsOf (.ref t) >>= fun _ => _) _ _ s
  refine wpAny_bind (tupleItemsOf_ ht (wpAny_bind (wpAny_typeOf isSl ?_)))
  rw [if_pos (show (Value.type "slice" == Value.type "slice") = true by decide)]
  refine wpAny_bind (sliceApplied_back hs ps ?_)
  show wpAny _ _ (if (((items.size : Int) - 1) == 0 && (-1 : Int) == 1 && items.size == items.size) = true then _ else _) _ _ s
  rw [if_neg other, pick_back]
  first
    | exact wpAny_bind (m := Builtin.Tuple.tupleExact _) (wpAny_newObj_type (wpAny_pure ⟨_, rfl, wpAny_pure h⟩) ok)
    | exact wpAny_bind (m := Builtin.Tuple.tupleExact _) (wpAny_newObj_type (wpAny_bind (wpAny_pure (wpAny_pure ⟨_, rfl, wpAny_pure h⟩))) ok)
    | exact wpAny_bind (wpAny_bind (m := Builtin.Tuple.tupleExact _) (wpAny_newObj_type (wpAny_pure (wpAny_pure ⟨_, rfl, wpAny_pure h⟩)) ok))
    | exact wpAny_bind (wpAny_bind (m := Builtin.Tuple.tupleExact _) (wpAny_newObj_type (wpAny_pure ⟨_, rfl, wpAny_pure h⟩) ok))
end
end HT

namespace DL
open PySem PySem.Spec PyProof.Rows L2
def tRevT (K : PySem.W.Frag) (te : TE) : TE := fun σ H Q => te σ H fun x H1 => ∃ a xs, x = .ref a ∧ SqT K H1 a xs ∧ ∀ p, H1 p = none → Q (.ref p) (upd H1 p (.tup xs.reverse))
section
variable {X : Cx} {e : Expr} {te : TE} {k : Nat} {p1 p2 p3 pos : Pos}
theorem pe_revT (he : PE X e te) : PE X (.Subscript e (.Slice none none (some (.UnaryOp .USub (.Constant (.int 1) k p1) p2)) p3) pos) (tRevT X.K te) := by
  have back : PO X (some (.UnaryOp .USub (.Constant (.int 1) k p1) p2)) (tPart (tUn (rU fun i => .int (-i)) (tC (.int 1)))) := po_some (pe_un (X := X) un_neg pe_int)
  constructor
  intro pins s σ H Q I h
  refine Subscript_ (thn (he.run pins s σ H _ I h) fun v s1 got => ?_)
  obtain ⟨_, H1, I1, r1, a, xs, rfl, hx, q⟩ := got
  cases r1
  have low := po_none.run (X := X) pins s1 σ H1 (fun o G => o = none ∧ G = H1) I1 ⟨rfl, rfl⟩
  refine wpAny_Slice (thn low fun vl s2 got => ?_)
  obtain ⟨_, _, I2, pl, rfl, rfl⟩ := got
  refine thn (po_none.run pins s2 σ _ (fun o G => o = none ∧ G = _) I2 ⟨rfl, rfl⟩) fun vu s3 got => ?_
  obtain ⟨_, _, I3, pu, rfl, rfl⟩ := got
  refine thn (back.run pins s3 σ _ (fun o G => o = some (-1) ∧ G = _) I3 ⟨1, rfl, -1, rfl, rfl, rfl⟩) fun vs s4 got => ?_
  obtain ⟨_, _, I4, ps, rfl, rfl⟩ := got
  cases pl
  cases pu
  generalize hh : s4.heap.push { cls := .type "slice", data := .fields #[.none, .none, vs] } = h5
  have I5 : Inv X pins σ _ { s4 with heap := h5 } := I4.kept (t' := s4.toks) fun b ob q => by rw [← hh]; exact Heap.get?_push_of_some _ q
  obtain ⟨its, r, ht, hz⟩ := I5.tuple hx
  have sl : h5.IsSliceOf s4.heap.objs.size .none .none vs := by rw [← hh]; exact Heap.IsSliceOf.new _ .none .none vs
  refine tail_any (ops := [.ref a, .ref s4.heap.objs.size]) ht.typeIs (PyProof.Rows.slot_tuple_getitem.lookup) ?_ (by with_unfolding_all rfl)
  refine HT.getItem_tuple_back ht sl ps ⟨.ref h5.objs.size, _, I5.laid (t' := s4.toks) (o := .tup xs.reverse) (fun b ob q => Heap.get?_push_of_some _ q) (Nat.le_refl _) ⟨by rw [List.length_reverse]; exact hz, _, r.reverse, IsTup.new _ _⟩, rfl, q _ (I5.hok.fresh (Nat.le_refl _))⟩ ?_
  rw [List.size_toArray, ← r.length]
  exact hz
def gRev : PyData → Option PyData
  | .tuple ds => some (.tuple ds.reverse)
  | _ => none
theorem p_rev {K : PySem.W.Frag} : Pure1 (fun x H1 Q => ∃ a xs, x = .ref a ∧ SqT K H1 a xs ∧ ∀ p, H1 p = none → Q (.ref p) (upd H1 p (.tup xs.reverse))) gRev := fun M H x d z Q hm hx hg k => by
  match d, hx, hg with
  | .tuple ds, hx, hg =>
    cases hg
    obtain ⟨a, xs, rfl, n, rd, q, l⟩ := hx.tup
    exact ⟨a, xs, rfl, .inl rd, fun p hp => k _ _ (same_upd hp) (new_tup hm hp q.reverse (by rw [List.length_reverse]; exact l))⟩
theorem d_rev {f : X1} (he : PE X e (tD f)) : PE X (.Subscript e (.Slice none none (some (.UnaryOp .USub (.Constant (.int 1) k p1) p2)) p3) pos) (tD (x1 gRev f)) := (pe_revT he).imp fun σ H Q q => step1 p_rev q
end
end DL
/-! ### the text of data with dicts in it -/
namespace DL
open PySem PySem.Spec PyProof.Rows L2
theorem boot_bool_ : bootBuiltins "bool" = some (.type "bool") := by decide +kernel
/-- what is known of a value whose text is asked for -/
def Tells (P : Program) (w : World) (h : Heap) (u : Value) (d : PyData) : Prop := ∃ as bs, Reads h u d as ∧ ReadAtMost h d.depth bs ∧ ReprK P w bs h d.depth u d.shown ∧ ∀ a, u = .ref a → ∃ T idr, ShowsBy P w h a d T idr
def TellsAll (P : Program) (w : World) (h : Heap) (us : List Value) (ds : List PyData) : Prop := ∃ as bs, ReadsAll h us ds as ∧ ReadAtMost h (PyData.depthAll ds) bs ∧ ReprAllK P w bs h (PyData.depthAll ds) us (PyData.shownAll ds)
section
variable {P : Program} {w : World} {h : Heap}
theorem tells_plain {u : Value} {d : PyData} {as : List Addr} (r : Reads h u d as) (hs : d.showable = true) (hd : d.hasDict = false) (hz : d.shown.length ≤ sizeLine) : Tells P w h u d := by
  have no : d.hasDict = true → sysModules ∉ as := PyData.noDict_hsm hd
  obtain ⟨bs, h1, h2⟩ := ReprK.of_reads (prog := P) (w := w) r hs no hz
  exact ⟨as, bs, r, h1, h2, fun a e => by subst e; exact showsBy_of_reads r hs no hz⟩
theorem tells_nil : TellsAll P w h [] [] := ⟨[], [], .nil, (fun _ m => nomatch m), by simp only [PyData.shownAll]; exact .nil⟩
theorem tells_cons {u : Value} {us : List Value} {d : PyData} {ds : List PyData} (x : Tells P w h u d) (y : TellsAll P w h us ds) : TellsAll P w h (u :: us) (d :: ds) := by
  obtain ⟨as, bs, r1, m1, k1, _⟩ := x
  obtain ⟨as2, bs2, r2, m2, k2⟩ := y
  have l1 : d.depth ≤ PyData.depthAll (d :: ds) := by simp only [PyData.depthAll]; omega
  have l2 : PyData.depthAll ds ≤ PyData.depthAll (d :: ds) := by simp only [PyData.depthAll]; omega
  refine ⟨as ++ as2, bs ++ bs2, .cons r1 r2, (m1.mono l1).append (m2.mono l2), ?_⟩
  have t1 := (k1.more (as' := bs ++ bs2) fun b m => List.mem_append_left _ m).level_le l1
  have t2 := k2.more_le (as' := bs ++ bs2) (fun b m => List.mem_append_right _ m) l2
  simp only [PyData.shownAll]
  exact .cons t1 t2
theorem tells_list {a : Addr} {o : Obj} {vs : Array Value} {n : Nat} {ds : List PyData} (h1 : h.get? a = some o) (h2 : o.cls = .type "list") (h3 : o.data = .seq vs n) (x : TellsAll P w h vs.toList ds) (hz : (PyData.list ds).shown.length ≤ sizeLine) : Tells P w h (.ref a) (.list ds) := by
  obtain ⟨as, bs, r, m, k⟩ := x
  have r0 := Reads.list h1 h2 h3 r
  have new : a ∉ bs := not_mem_of_deeper r0 (by simp only [PyData.depth]; omega) m
  have m0 := ReadAtMost.cons r0 (Nat.le_refl _) (m.mono (show PyData.depthAll ds ≤ (PyData.list ds).depth by simp only [PyData.depth]; omega))
  simp only [PyData.shown] at hz
  obtain ⟨l⟩ := vs
  cases l with
  | nil =>
    cases (show ReadsAll h [] ds as from r)
    refine ⟨_, _, r0, m0, ?_, fun b e => ?_⟩
    · simp only [PyData.shown, PyData.shownAll, listText_nil]
      exact ReprK.listEmpty h1 h2 h3
    · cases e
      refine ⟨"list", "list.__repr__", F.slot_list_repr.toG, F.slot_list_str, F.slot_list_format, fun s e => ⟨o, e _ _ h1, h2⟩, fun A E s Q hg hu e hQ => ?_⟩
      simp only [PyData.shown, PyData.shownAll, listText_nil] at hQ
      exact call_list_repr_empty ⟨o, e _ _ h1, h2⟩ (e _ _ h1) h3 (hQ s.heap _ _ fun _ _ q => q)
  | cons x l =>
    have len : (PyData.shownAll ds).length = ((x :: l).toArray).size := by simpa using k.length_eq
    refine ⟨_, _, r0, m0, ?_, fun b e => ?_⟩
    · simp only [PyData.depth, PyData.shown]
      exact ReprK.list h1 h2 h3 new len fun i y q => k.item i y (by simpa using q)
    · cases e
      refine ⟨"list", "list.__repr__", F.slot_list_repr.toG, F.slot_list_str, F.slot_list_format, fun s e => ⟨o, e _ _ h1, h2⟩, fun A E s Q hg hu e hQ => ?_⟩
      simp only [PyData.depth] at hu
      simp only [PyData.shown] at hQ
      exact call_list_reprK h1 h2 h3 new len (fun i y q => k.item i y (by simpa using q)) hg (fun b _ => Clear.nil b) hu e hQ hz
theorem tells_tup {a : Addr} {o : Obj} {vs : Array Value} {n : Nat} {ds : List PyData} (h1 : h.get? a = some o) (h2 : o.cls = .type "tuple") (h3 : o.data = .seq vs n) (x : TellsAll P w h vs.toList ds) (hz : (PyData.tuple ds).shown.length ≤ sizeLine) : Tells P w h (.ref a) (.tuple ds) := by
  obtain ⟨as, bs, r, m, k⟩ := x
  have r0 := Reads.tuple h1 h2 h3 r
  have new : a ∉ bs := not_mem_of_deeper r0 (by simp only [PyData.depth]; omega) m
  have m0 := ReadAtMost.cons r0 (Nat.le_refl _) (m.mono (show PyData.depthAll ds ≤ (PyData.tuple ds).depth by simp only [PyData.depth]; omega))
  simp only [PyData.shown] at hz
  refine ⟨_, _, r0, m0, ?_, fun b e => ?_⟩
  · simp only [PyData.depth, PyData.shown]
    exact ReprK.tuple h1 h2 h3 new k
  · cases e
    refine ⟨"tuple", "tuple.__repr__", F.slot_tuple_repr, F.slot_tuple_str, F.slot_tuple_format, fun s e => ⟨o, e _ _ h1, h2⟩, fun A E s Q hg hu e hQ => ?_⟩
    simp only [PyData.depth] at hu
    simp only [PyData.shown] at hQ
    exact call_tuple_reprK h1 h2 h3 new k hg (fun b _ => Clear.nil b) hu e hQ hz
theorem tells_dict {a : Addr} {o : Obj} {es : Array DictEntry} {n : Nat} {ps : List (PyData × PyData)} (h1 : h.get? a = some o) (h2 : o.cls = .type "dict") (h3 : o.data = .dict es n) (hsys : (a == sysModules) = false) (rk : ReadsAll h (es.toList.map (·.key)) (ps.map (·.1)) [])
    (rv : ReadsAll h (es.toList.map (·.val)) (ps.map (·.2)) []) (hs : (PyData.dict ps).showable = true) (hz : (PyData.dict ps).shown.length ≤ sizeLine) : Tells P w h (.ref a) (.dict ps) := by
  have z : (dictText (PyData.shownKv ps)).length ≤ sizeLine := by simpa only [PyData.shown] using hz
  obtain ⟨s1, s2⟩ := PyData.showableKv_split ps (by simpa [PyData.showable] using hs)
  have none : ∀ b : Bool, b = true → sysModules ∉ ([] : List Addr) := fun _ _ m => nomatch m
  obtain ⟨b1, m1, k1⟩ := ReprAllK.of_readsAll (prog := P) (w := w) rk s1 (none _) fun t ht => by
    obtain ⟨p, hp, l⟩ := PyData.shownKv_key_le ps t ht
    exact Nat.le_trans l (Nat.le_trans (dictText_mem_le hp) z)
  obtain ⟨b2, m2, k2⟩ := ReprAllK.of_readsAll (prog := P) (w := w) rv s2 (none _) fun t ht => by
    obtain ⟨p, hp, l⟩ := PyData.shownKv_val_le ps t ht
    exact Nat.le_trans l (Nat.le_trans (dictText_mem_le hp) z)
  have r0 := Reads.dict h1 h2 h3 rk rv
  have lk := PyData.depthAll_keys_le ps
  have lv := PyData.depthAll_vals_le ps
  have m : ReadAtMost h (PyData.depthKv ps) (b1 ++ b2) := (m1.mono lk).append (m2.mono lv)
  have new : a ∉ b1 ++ b2 := not_mem_of_deeper r0 (by simp only [PyData.depth]; omega) m
  have both := ReprEntriesK.of_two es.toList _ _ (k1.more_le (as' := b1 ++ b2) (fun b q => List.mem_append_left _ q) lk) (k2.more_le (as' := b1 ++ b2) (fun b q => List.mem_append_right _ q) lv)
  refine ⟨_, _, r0, ReadAtMost.cons r0 (Nat.le_refl _) (m.mono (show PyData.depthKv ps ≤ (PyData.dict ps).depth by simp only [PyData.depth]; omega)), ?_, fun b e => ?_⟩
  · simp only [PyData.depth, PyData.shown, PyData.shownKv_eq]
    exact ReprK.dict h1 h2 h3 hsys new both
  · cases e
    refine ⟨"dict", "dict.__repr__", F.slot_dict_repr, F.slot_dict_str, F.slot_dict_format, fun s e => ⟨o, e _ _ h1, h2⟩, fun A E s Q hg hu e hQ => ?_⟩
    simp only [PyData.depth] at hu
    simp only [PyData.shown, PyData.shownKv_eq] at hQ
    exact call_dict_reprK h1 h2 h3 hsys new both hg (fun b _ => Clear.nil b) hu e hQ (by rw [← PyData.shownKv_eq]; exact z)
theorem key_reads {k : Key} {u : Value} (q : keyIs k u = true) : Reads h u (keyD k) [] := by
  rcases keyIs_shape q with ⟨i, t, rfl, rfl⟩ | ⟨x, t, rfl, rfl⟩
  · exact Reads.int i t
  · exact Reads.str x t
theorem pairs_reads : ∀ {es : List DictEntry} {vs : List (Key × Value)} {kvs : List (Key × V)} {ps : List (PyData × PyData)}, Pairs (mixKind P w) es vs → KV kvs vs → Paired (fun (q : Key × V) (p : PyData × PyData) => keyD q.1 = p.1 ∧ AtV q.2 p.2) kvs ps →
    ReadsAll h (es.map (·.key)) (ps.map (·.1)) [] ∧ ReadsAll h (es.map (·.val)) (ps.map (·.2)) []
  | _, _, _, _, .nil, .nil, .nil => ⟨.nil, .nil⟩
  | _, _, _, _, .cons k1 k2 t, .cons r rt,   .cons a aq => by
    obtain ⟨h1, h2⟩ := pairs_reads t rt aq
    obtain ⟨e1, e2⟩ := r
    obtain ⟨a1, a2⟩ := a
    refine ⟨?_, ?_⟩
    · have := key_reads (h := h) (show keyIs _ _ = true from k1)
      rw [← e1, a1] at this
      exact ReadsAll.cons this h1
    · have := at_reads (h := h) a2 e2
      rw [← k2] at this
      exact ReadsAll.cons this h2
end
section
variable {X : Cx} {pins : List (Addr × Obj)} {σ : L2.St} {M : Addr → Prop} {H : Hp} {s : Shared}
mutual
theorem Dv.tells (I : Inv X pins σ H s) : ∀ (d : PyData) (v : V) (u : Value), d.showable = true → d.shown.length ≤ sizeLine → Dv M H v d → RelV v u → Tells X.prog X.w s.heap u d
  | .none, _, _, a, b, h, r => by cases h with | atm q => exact tells_plain (at_reads q r) a rfl b
  | .bool _, _, _, a, b, h, r => by cases h with | atm q => exact tells_plain (at_reads q r) a rfl b
  | .int _, _, _, a, b, h, r => by cases h with | atm q => exact tells_plain (at_reads q r) a rfl b
  | .str _, _, _, a, b, h, r => by cases h with | atm q => exact tells_plain (at_reads q r) a rfl b
  | .list ds, _, _, a, b, h, r => by
    cases h with
    | atm q => cases q
    | lst n hs l ha =>
      cases r
      obtain ⟨its, rv, ⟨o, n, ho, hc, _, hd⟩, _⟩ := I.list (.inl hs)
      exact tells_list ho hc hd (DvA.tells I ds _ its (by simpa [PyData.showable] using a) (fun t m => Nat.le_trans (listText_mem_le m) (by simpa only [PyData.shown] using b)) ha rv) b
  | .tuple ds, _, _, a, b, h, r => by
    cases h with
    | atm q => cases q
    | tup n hs l ha =>
      cases r
      obtain ⟨its, rv, ⟨o, ho, hc, n, hd⟩, _⟩ := I.tuple (.inl (.inl hs))
      exact tells_tup ho hc hd (DvA.tells I ds _ its (by simpa [PyData.showable] using a) (fun t m => Nat.le_trans (tupleText_mem_le m) (by simpa only [PyData.shown] using b)) ha rv) b
  | .dict ps, _, _, a, b, h, r => by
    cases h with
    | atm q => cases q
    | dct n hs l hp =>
      cases r
      obtain ⟨z, hsys, vs, kv, o, es, ep, h1, h2, h3, _, pr, _⟩ := dk_rd I.hok hs
      obtain ⟨rk, rv⟩ := pairs_reads (h := s.heap) pr kv hp
      exact tells_dict h1 h2.1 h3 hsys rk rv a b
    | dcm _ _ _ big _ =>
      simp only [PyData.showable, PyData.showableKv, Bool.and_eq_true, decide_eq_true_eq] at a
      omega
theorem DvA.tells (I : Inv X pins σ H s) : ∀ (ds : List PyData) (vs : List V) (us : List Value), PyData.showableAll ds = true → (∀ t ∈ PyData.shownAll ds, t.length ≤ sizeLine) → DvA M H vs ds → Vals vs us → TellsAll X.prog X.w s.heap us ds
  | [], _, _, _, _, h, r => by
    cases h
    cases r
    exact tells_nil
  | d :: ds, _, _, a, b, h, r => by
    cases h with
    | cons h1 h2 =>
      cases r with
      | cons r1 r2 =>
        simp only [PyData.showableAll, Bool.and_eq_true] at a
        simp only [PyData.shownAll] at b
        exact tells_cons (Dv.tells I d _ _ a.1 (b _ (List.mem_cons_self ..)) h1 r1) (DvA.tells I ds _ _ a.2 (fun t m => b t (List.mem_cons_of_mem _ m)) h2 r2)
end
end
/-- repr(x), x any data -/
def repOkD (d : PyData) : Bool := d.showable && decide (d.depth ≤ 64) && decide (d.shown.length ≤ sizeLine)
def rReprD : List V → Hp → VK → Prop := fun xs H Q => ∃ v d, xs = [v] ∧ Dv (fun _ => False) H v d ∧ repOkD d = true ∧ Q (.str d.shown) H
section
variable {X : Cx}
theorem call_reprDD (hG : X.A.guards = some []) (hu : X.A.units + 100 < cLine) : CallR X (.builtin "repr") rReprD := by
  intro pins s σ H xs us Q I r h
  obtain ⟨v, d, rfl, hv, ok, q⟩ := h
  unfold repOkD at ok
  simp only [Bool.and_eq_true, decide_eq_true_eq] at ok
  obtain ⟨⟨sh, dp⟩, sz⟩ := ok
  obtain ⟨u, rfl, ru⟩ := vals1 r
  have byRef : ∀ a, v = .ref a → wpAny (model X.prog X.w) X.A (call (.builtin "repr") [u]) (EP X pins σ Q) X.xe s := fun a e => by
    subst e
    cases ru
    obtain ⟨_, _, _, _, _, S⟩ := Dv.tells I d _ _ sh sz hv rfl
    obtain ⟨T, idr, S⟩ := S a rfl
    exact call_repr_slot (by omega) (S.typeIs s fun _ _ e => e) S.slotRepr (S.call X.A.in1 X.xe s _ hG (by show X.A.units + 1 + d.depth < cLine; omega) (fun _ _ e => e) fun h' t tk k => ⟨_, _, rfl, ⟨.str d.shown, H, I.kept (t' := tk) k, ⟨t, rfl⟩, q⟩⟩)
  cases hv with
  | lst _ _ _ _ => exact byRef _ rfl
  | tup _ _ _ _ => exact byRef _ rfl
  | dct _ _ _ _ => exact byRef _ rfl
  | dcm _ _ _ _ _ => exact byRef _ rfl
  | atm a =>
    cases a with
    | non =>
      cases ru
      simp only [PyData.shown] at q
      exact PySem.P.repr_of_none ⟨.str _, H, I.tok _, ⟨_, rfl⟩, q⟩
    | bl b =>
      cases ru
      simp only [PyData.shown] at q
      exact PySem.P.repr_of_bool ⟨.str _, H, I.tok _, ⟨_, rfl⟩, q⟩
    | int i =>
      obtain ⟨t, rfl⟩ := ru
      simp only [PyData.shown] at q
      exact PySem.P.repr_of_int (by simpa [PyData.showable] using sh) ⟨.str _, H, I.tok _, ⟨_, rfl⟩, q⟩
    | str x =>
      obtain ⟨t, rfl⟩ := ru
      simp only [PyData.shown] at q sz
      exact PySem.P.repr_of_str ⟨.str _, H, I.tok _, ⟨_, rfl⟩, q⟩ sz
def gReprD : List PyData → Option PyData
  | [d] => if repOkD d then some (.str d.shown) else none
  | _ => none
theorem p_reprD : PureN rReprD gReprD := fun M H xs ds z Q hm hx hg k => by
  match ds, hx, hg with
  | [d], hx, hg =>
    obtain ⟨v, rfl, dv⟩ := one hx
    by_cases h : repOkD d = true
    · simp only [gReprD, h, if_true] at hg
      cases hg
      exact ⟨v, d, rfl, dv.bot, h, k _ H (fun _ _ h => h) (.atm (.str _))⟩
    · simp [gReprD, h] at hg
end
end DL
/-! ### the signs of a text that repr makes; data with a text that is not too long -/
namespace DL
open PySem PySem.Spec PyProof.Rows L2
def Low (x : Str) : Prop := ∀ c ∈ x.cps.toList, c < 16 ^ 8
theorem low_char (k : Char) : k.toNat < 16 ^ 8 := by
  have h := k.valid
  have : k.toNat < 1114112 := by
    rcases h with h | h
    · have : k.val.toNat < 55296 := h
      show k.val.toNat < 1114112
      omega
    · exact h.2
  have e : (16 : Nat) ^ 8 = 4294967296 := by decide
  omega
theorem low_of (s : String) : Low (Str.ofString s) := by
  intro c hc
  rw [Str.ofString_eq_toList] at hc
  obtain ⟨k, _, rfl⟩ := List.mem_map.mp hc
  exact low_char k
theorem low_app {x y : Str} (h1 : Low x) (h2 : Low y) : Low (x ++ y) := by
  intro c hc
  have : (x ++ y).cps = x.cps ++ y.cps := rfl
  rw [this, Array.toList_append] at hc
  rcases List.mem_append.mp hc with h | h
  · exact h1 c h
  · exact h2 c h
theorem low_join {s : Str} (hs : Low s) : ∀ ts : List Str, (∀ t ∈ ts, Low t) → Low (Str.join s ts)
  | [], _ => by intro c hc; exact absurd hc (by simp [Str.join, Str.empty])
  | [x], h => h x (List.mem_cons_self ..)
  | x :: y :: r, h => low_app (low_app (h x (List.mem_cons_self ..)) hs) (low_join hs (y :: r) fun t ht => h t (List.mem_cons_of_mem _ ht))
theorem low_from : ∀ (ts : List Str) (k : Nat) (acc : Str), Low acc → (∀ t ∈ ts, Low t) → Low (textFrom k acc ts)
  | [], _, _, h, _ => h
  | t :: r, k, acc, h, ht => low_from r (k + 1) _ (low_app (low_app h (low_of _)) (ht t (List.mem_cons_self ..))) fun u hu => ht u (List.mem_cons_of_mem _ hu)
theorem low_repr {x : Str} (h : Low x) : Low (reprText x) := by
  have q : reprQuote x < 100 := by unfold reprQuote; split <;> decide
  have e : (16 : Nat) ^ 8 = 4294967296 := by decide
  have ch : ∀ c, c < 16 ^ 8 → ∀ d ∈ Builtin.Str.reprChar (reprQuote x) c, d < 16 ^ 8 := by
    intro c hc d hd
    have hex : ∀ w, d ∈ List.replicate (w - ((Nat.toDigits 16 c).map Char.toNat).length) 48 ++ (Nat.toDigits 16 c).map Char.toNat → d < 16 ^ 8 := by
      intro w m
      rcases List.mem_append.mp m with m | m
      · rw [(List.mem_replicate.mp m).2]
        omega
      · obtain ⟨k, _, rfl⟩ := List.mem_map.mp m
        exact low_char k
    unfold Builtin.Str.reprChar at hd
    dsimp only at hd
    repeat' split at hd
    all_goals simp only [List.mem_append, List.mem_cons, List.not_mem_nil, or_false] at hd hex
    all_goals first
      | omega
      | (rcases hd with (hd | hd) | hd | hd <;> first | omega | exact hex _ (.inl hd) | exact hex 0 (.inr hd))
  have fold : ∀ (l : List Nat) (acc : Array Nat), (∀ c ∈ l, c < 16 ^ 8) → (∀ c ∈ acc.toList, c < 16 ^ 8) → ∀ c ∈ (l.foldl (fun out c => out ++ (Builtin.Str.reprChar (reprQuote x) c).toArray) acc).toList, c < 16 ^ 8 := by
    intro l
    induction l with
    | nil => exact fun acc _ h => h
    | cons a r ih =>
      intro acc hl ha
      refine ih _ (fun c hc => hl c (List.mem_cons_of_mem _ hc)) fun c hc => ?_
      rw [Array.toList_append] at hc
      rcases List.mem_append.mp hc with m | m
      · exact ha c m
      · exact ch a (hl a (List.mem_cons_self ..)) c m
  intro c hc
  unfold reprText at hc
  simp only [Array.toList_push, ← Array.foldl_toList] at hc
  rcases List.mem_append.mp hc with m | m
  · exact fold _ _ h (fun c hc => by
      have : c = reprQuote x := by simpa using hc
      omega) c m
  · have : c = reprQuote x := by simpa using m
    omega
mutual
theorem low_shown (B : Nat) : ∀ d : PyData, d.leavesShort B = true → Low d.shown
  | .none, _ => by simp only [PyData.shown]; exact low_of _
  | .bool b, _ => by
    simp only [PyData.shown]
    cases b <;> exact low_of _
  | .int i, _ => by simp only [PyData.shown]; exact low_of _
  | .str x, h => by
    simp only [PyData.shown]
    exact low_repr (by simpa only [Low, PyData.leavesShort, List.all_eq_true, decide_eq_true_eq] using h)
  | .list xs, h => by
    simp only [PyData.shown]
    exact low_app (low_from _ _ _ (low_of _) (lows_shown B xs (by simpa only [PyData.leavesShort] using h))) (low_of _)
  | .tuple xs, h => by
    simp only [PyData.shown]
    exact low_app (low_app (low_of _) (low_join (low_of _) _ (lows_shown B xs (by simpa only [PyData.leavesShort] using h)))) (low_of _)
  | .dict kvs, h => by
    simp only [PyData.shown]
    exact low_app (low_app (low_of _) (low_join (low_of _) _ (lowk_shown B kvs (by simpa only [PyData.leavesShort] using h)))) (low_of _)
theorem lows_shown (B : Nat) : ∀ xs : List PyData, PyData.leavesShortAll B xs = true → ∀ t ∈ PyData.shownAll xs, Low t
  | [], _, t, ht => by simp [PyData.shownAll] at ht
  | d :: r, h, t, ht => by
    simp only [PyData.leavesShortAll, Bool.and_eq_true] at h
    simp only [PyData.shownAll] at ht
    rcases List.mem_cons.mp ht with rfl | ht
    · exact low_shown B d h.1
    · exact lows_shown B r h.2 t ht
theorem lowk_shown (B : Nat) : ∀ kvs : List (PyData × PyData), PyData.leavesShortKv B kvs = true → ∀ t ∈ PyData.shownKv kvs, Low t
  | [], _, t, ht => by simp [PyData.shownKv] at ht
  | (k, v) :: r, h, t, ht => by
    simp only [PyData.leavesShortKv, Bool.and_eq_true] at h
    simp only [PyData.shownKv] at ht
    rcases List.mem_cons.mp ht with rfl | ht
    · exact low_app (low_app (low_shown B k h.1.1) (low_of _)) (low_shown B v h.1.2)
    · exact lowk_shown B r h.2 t ht
end
/-- data with a text that is not too long -/
structure Fine (n : Nat) (d : PyData) : Prop where
  lv : d.leavesShort 64 = true
  sh : d.showable = true
  dp : d.depth ≤ 32
  wt : d.weight ≤ n
theorem Fine.rep {n : Nat} {d : PyData} (h : Fine n d) (hn : n ≤ 200000) : repOkD d = true := by
  have := PyData.shown_le 64 (by decide) d h.lv
  have e : sizeLine = 16777216 := by decide
  have := h.wt
  have := h.dp
  unfold repOkD
  simp only [Bool.and_eq_true, decide_eq_true_eq]
  exact ⟨⟨h.sh, by omega⟩, by omega⟩
theorem Fine.text {n : Nat} {d : PyData} (h : Fine n d) : Fine (66 * n + 64) (.str d.shown) := by
  refine ⟨?_, by simp [PyData.showable], by simp [PyData.depth], ?_⟩
  · have := low_shown 64 d h.lv
    simpa only [Low, PyData.leavesShort, List.all_eq_true, decide_eq_true_eq] using this
  · have h1 := PyData.shown_le 64 (by decide) d h.lv
    have h2 : (64 + 2) * d.weight ≤ 66 * n := Nat.mul_le_mul_left _ h.wt
    simp only [PyData.weight]
    have : d.shown.cps.size = d.shown.length := rfl
    omega
end DL
/-! ### <= of numbers and of rows of numbers -/
namespace DL
open PySem PySem.Spec PyProof.Rows L2
section
variable {X : Cx}
theorem lex_leI (ns ms : List Int) : ∀ (k i : Nat), k = min ns.length ms.length - i → i ≤ min ns.length ms.length → Ob.lexAt (fun j => decide (ns.getD j 0 = ms.getD j 0)) (fun j => decide (ns.getD j 0 ≤ ms.getD j 0)) (decide (ns.length ≤ ms.length)) i k = lexLeI (ns.drop i) (ms.drop i)
  | 0, i, hk, hi => by
    rw [Ob.lexAt_zero]
    have he : i = min ns.length ms.length := by omega
    by_cases h : ns.length ≤ ms.length
    · rw [List.drop_eq_nil_of_le (show ns.length ≤ i by omega)]
      simp [lexLeI, h]
    · rw [List.drop_eq_nil_of_le (show ms.length ≤ i by omega), List.drop_eq_getElem_cons (show i < ns.length by omega)]
      simp [lexLeI, h]
  | k + 1, i, hk, hi => by
    have h1 : i < ns.length := by omega
    have h2 : i < ms.length := by omega
    rw [Ob.lexAt_succ, lex_leI ns ms k (i + 1) (by omega) (by omega), List.drop_eq_getElem_cons h1, List.drop_eq_getElem_cons h2]
    simp only [lexLeI, List.getD_eq_getElem?_getD, List.getElem?_eq_getElem h1, List.getElem?_eq_getElem h2, Option.getD_some, decide_eq_true_eq]
def rLeA (K : PySem.W.Frag) : R2 := fun x y H Q => (rI0 fun i j => .bl (decide (i ≤ j))) x y H Q ∨ rLeT K x y H Q
theorem op_leA (hu : X.A.units + 64 < cLine) : OpR X (compareOp .LtE) (rLeA X.K) := OpR.or op_le (op_leT (by omega))
def gLeA : PyData → PyData → Option PyData
  | .int i, .int j => some (.bool (decide (i ≤ j)))
  | .tuple ds, .tuple es => match intsD ds, intsD es with
    | some ns, some ms => some (.bool (lexLeI ns ms))
    | _, _ => none
  | _, _ => none
theorem p_leA {K : PySem.W.Frag} : Pure2 (rLeA K) gLeA := fun M H x y d e z Q hm hx hy hg k => by
  unfold gLeA at hg
  split at hg
  · rename_i i j
    cases hg
    exact .inl ⟨i, j, hx.int, hy.int, k _ H (fun _ _ h => h) (.atm (.bl _))⟩
  · rename_i ds es
    split at hg
    · rename_i ns ms h1 h2
      cases hg
      obtain ⟨a, xs, rfl, _, r1, q1, _⟩ := hx.tup
      obtain ⟨b, ys, rfl, _, r2, q2, _⟩ := hy.tup
      rw [intsD_eq h1] at q1
      rw [intsD_eq h2] at q2
      rw [ints_v q1] at r1
      rw [ints_v q2] at r2
      refine .inr ⟨a, b, ns, ms, rfl, rfl, .inl r1, .inl r2, ?_⟩
      have e := lex_leI ns ms (min ns.length ms.length) 0 (by omega) (by omega)
      simp only [List.drop_zero] at e
      rw [e]
      exact k _ H (fun _ _ h => h) (.atm (.bl _))
    · cases hg
  · cases hg
end
end DL
namespace DL
open PySem PySem.Spec PyProof.Rows L2

/-! ### starred items of a display -/
def aStar (f : X1) (fs : A1) : A1 := fun e w => match f e w with
  | some (.v (.tuple ds), w1) => match fs e w1 with
    | some (rs, w2) => some (ds.map RS.v ++ rs, w2)
    | none => none
  | some (.v (.list ds), w1) => match fs e w1 with
    | some (rs, w2) => some (ds.map RS.v ++ rs, w2)
    | none => none
  | _ => none
theorem isRs_map {P : Addr → Prop} {α : List Addr} {e : DE} {σ : L2.St} {H : Hp} : ∀ {vs : List V} {ds : List PyData}, DvA (Msk P α e σ) H vs ds → IsRs P α e σ H vs (ds.map RS.v)
  | _, _, .nil => .nil
  | _, _, .cons a b => .cons a (isRs_map b)
theorem isRs_app {P : Addr → Prop} {α : List Addr} {e : DE} {σ : L2.St} {H : Hp} : ∀ {vs us : List V} {rs qs : List RS}, IsRs P α e σ H vs rs → IsRs P α e σ H us qs → IsRs P α e σ H (vs ++ us) (rs ++ qs)
  | _, _, _, _, .nil, h => h
  | _, _, _, _, .cons a b, h => .cons a (isRs_app b h)
section
variable {X : Cx} {x : Expr} {es : List Expr} {pos p : Pos} {f : X1} {fs : A1}
theorem da_star (a : PE X x (tD f)) (b : PA X es (tDA fs)) (hs : starEach (.Starred x p :: es) X.env = (true, eval x X.env) :: starEach es X.env := by rfl) : PA X (.Starred x p :: es) (tDA (aStar f fs)) := (StX.pa_star a b hs).imp fun σ H Q q => by
  obtain ⟨P, α, e, w, r, w', R, hf, k⟩ := q
  unfold aStar at hf
  cases h1 : f e w with
  | none => simp [h1] at hf
  | some p =>
    obtain ⟨ra, w1⟩ := p
    simp only [h1] at hf
    match ra, h1, hf with
    | .v (.tuple ds), h1, hf =>
      simp only at hf
      cases h2 : fs e w1 with
      | none => simp [h2] at hf
      | some p =>
        obtain ⟨rb, w2⟩ := p
        simp only [h2] at hf
        cases hf
        refine ⟨P, α, e, w, _, w1, R, h1, fun v H1 α1 u1 R1 i1 => ?_⟩
        cases (show Dv _ _ v (.tuple ds) from i1) with
        | atm q => cases q
        | @tup a xs _ nm rd0 lm q => have rd : Rd _ a (.tup xs) := .inl rd0; exact ⟨a, xs, rfl, .inl (.inl rd), P, α1, e, w1, rb, _, R1, h2, fun vs H2 α2 u2 R2 i2 => k (xs ++ vs) H2 α2 (u1.trans u2) R2 (isRs_app (isRs_map (q.upE u2)) i2)⟩
    | .v (.list ds), h1, hf =>
      simp only at hf
      cases h2 : fs e w1 with
      | none => simp [h2] at hf
      | some p =>
        obtain ⟨rb, w2⟩ := p
        simp only [h2] at hf
        cases hf
        refine ⟨P, α, e, w, _, w1, R, h1, fun v H1 α1 u1 R1 i1 => ?_⟩
        cases (show Dv _ _ v (.list ds) from i1) with
        | atm q => cases q
        | @lst a xs _ nm rd lm q => exact ⟨a, xs, rfl, .inr (.inl rd), P, α1, e, w1, rb, _, R1, h2, fun vs H2 α2 u2 R2 i2 => k (xs ++ vs) H2 α2 (u1.trans u2) R2 (isRs_app (isRs_map (q.upE u2)) i2)⟩
/-- a display that may grow too long -/
def xTupS (fs : A1) : X1 := fun e w => match fs e w with
  | some (rs, w1) => match dataOf rs with
    | some ds => if ds.length ≤ LIM then some (.v (.tuple ds), w1) else none
    | none => none
  | none => none
def xLstS (fs : A1) : X1 := fun e w => match fs e w with
  | some (rs, w1) => match dataOf rs with
    | some ds => if ds.length ≤ LIM then some (.v (.list ds), w1) else none
    | none => none
  | none => none
theorem d_tupS {x1} (h : PA X es (tDA fs)) : PE X (.Tuple es x1 pos) (tD (xTupS fs)) := (pe_tup h).imp fun σ H Q q => by
  obtain ⟨P, α, e, w, r, w', R, hf, k⟩ := q
  unfold xTupS at hf
  cases h1 : fs e w with
  | none => simp [h1] at hf
  | some p =>
    obtain ⟨rs, w1⟩ := p
    simp only [h1] at hf
    cases h2 : dataOf rs with
    | none => simp [h2] at hf
    | some ds =>
      simp only [h2] at hf
      by_cases l1 : ds.length ≤ LIM
      case neg => simp [l1] at hf
      simp only [l1, if_true] at hf
      cases hf
      refine ⟨P, α, e, w, rs, _, R, h1, fun vs H1 α1 u1 R1 i1 => ?_⟩
      have dv := data_of i1 h2
      refine ⟨by rw [dv.length]; exact lim_le l1, fun p hp => ?_⟩
      have sm : Same H1 (upd H1 p (.tup vs)) := same_upd hp
      exact k _ _ α1 (u1.trans (.of_same sm)) (R1.same sm) (.tup (fresh_mut R1.mut hp) upd_same l1 (dv.same sm))
theorem d_lstS (h : PA X es (tDA fs)) : PE X (.List es pos) (tD (xLstS fs)) := (pe_lst h).imp fun σ H Q q => by
  obtain ⟨P, α, e, w, r, w', R, hf, k⟩ := q
  unfold xLstS at hf
  cases h1 : fs e w with
  | none => simp [h1] at hf
  | some p =>
    obtain ⟨rs, w1⟩ := p
    simp only [h1] at hf
    cases h2 : dataOf rs with
    | none => simp [h2] at hf
    | some ds =>
      simp only [h2] at hf
      by_cases l1 : ds.length ≤ LIM
      case neg => simp [l1] at hf
      simp only [l1, if_true] at hf
      cases hf
      refine ⟨P, α, e, w, rs, _, R, h1, fun vs H1 α1 u1 R1 i1 => ?_⟩
      have dv := data_of i1 h2
      refine ⟨by rw [dv.length]; exact lim_le l1, fun p hp => ?_⟩
      have sm : Same H1 (upd H1 p (.lst vs)) := same_upd hp
      exact k _ _ α1 (u1.trans (.of_same sm)) (R1.same sm) (.lst (fresh_mut R1.mut hp) (.inl upd_same) l1 (dv.same sm))
end
end DL
namespace DL
open PySem PySem.Spec PyProof.Rows L2

/-! ### comprehensions with two sources -/
def lc2Go (g : G1) (t : T1) (it1 : I1) (g1 : G1) (t1 : T1) (x : X1) (vs1 : List Nat) (e0 : DE) : List PyData → Wd → Option (List PyData × Wd)
  | [], w => some ([], w)
  | d :: ds, w => match g d e0 with
    | none => none
    | some e1 => match t e1 w with
      | none => none
      | some (false, w1) => lc2Go g t it1 g1 t1 x vs1 e0 ds w1
      | some (true, w1) => if okW e1 vs1 then match it1 e1 w1 with
        | none => none
        | some (js, w2) => match lcGo g1 t1 x (wipeE e1 vs1) js w2 with
          | none => none
          | some (r1, w3) => match lc2Go g t it1 g1 t1 x vs1 e0 ds w3 with
            | some (r2, w4) => some (r1 ++ r2, w4)
            | none => none
        else none
def xLc2 (vs vs1 : List Nat) (it : I1) (g : G1) (t : T1) (it1 : I1) (g1 : G1) (t1 : T1) (x : X1) : X1 := fun e w => if okW e vs then match it e w with
  | none => none
  | some (ds, w1) => match lc2Go g t it1 g1 t1 x vs1 (wipeE e vs) ds w1 with
    | some (r, w2) => if r.length ≤ LIM then some (.v (.list r), w2) else none
    | none => none
  else none
theorem isl_lc2 {vs vs1 : List Nat} {it : I1} {g : G1} {t : T1} {it1 : I1} {g1 : G1} {t1 : T1} {x : X1} : IsLst (xLc2 vs vs1 it g t it1 g1 t1 x) := ⟨fun e w r w' h => by
  unfold xLc2 at h
  by_cases hk : okW e vs = true
  case neg => rw [if_neg hk] at h; cases h
  rw [if_pos hk] at h
  cases h1 : it e w with
  | none => simp [h1] at h
  | some p =>
    obtain ⟨ds, w1⟩ := p
    simp only [h1] at h
    cases h2 : lc2Go g t it1 g1 t1 x vs1 (wipeE e vs) ds w1 with
    | none => simp [h2] at h
    | some p =>
      obtain ⟨r', w2⟩ := p
      simp only [h2] at h
      by_cases hl : r'.length ≤ LIM
      · rw [if_pos hl] at h
        cases h
        exact ⟨_, rfl⟩
      · rw [if_neg hl] at h; cases h⟩
/-- the inner loop, from what it keeps at each turn -/
theorem in_it {J : It} {n : Nat} {G : Hp → Prop} {Y : Nat → Hp → V → Hp → Prop} (w : Walk J n G Y) {g : TG} {tt : TT} {te : TE} {vs : List Nat} {σ : L2.St} {H4 : Hp} {D : Addr} {Nx : Hp → Prop} (Pv : Nat → Hp → Prop) (h0 : Pv 0 H4) (hG : ∀ i H, i ≤ n → Pv i H → G H)
    (hs : ∀ i x H H', i < n → Pv i H → Y i H x H' → g x (wipe σ vs) H' fun σ2 H2 => wipe σ2 vs = wipe σ vs ∧ tt σ2 H2 fun b H3 =>
      if b = true then te σ2 H3 fun y H5 => ∃ acc, H5 D = some (.lst acc) ∧ acc.length < sizeLine ∧ Pv (i + 1) (upd H5 D (.lst (acc ++ [y]))) else Pv (i + 1) H3) (hd : ∀ H, Pv n H → Nx H) :
    ∃ W : Nat → Nat → Hp → Prop, (∃ m, W 0 m H4) ∧ ∀ i m H, W i m H →
      (J.stop i H ∧ Nx H) ∨ (J.go i H ∧ ∃ N : Hp → Prop, (∀ H', N H' → ∃ m', m' < m ∧ W (i + 1) m' H') ∧ ∀ x H', J.yld i H x H' → g x (wipe σ vs) H' fun σ2 H2 => wipe σ2 vs = wipe σ vs ∧ tt σ2 H2 fun b H3 =>
        if b = true then te σ2 H3 fun y H5 => ∃ acc, H5 D = some (.lst acc) ∧ acc.length < sizeLine ∧ N (upd H5 D (.lst (acc ++ [y]))) else N H3) := by
  refine ⟨fun i m H => (i ≤ n ∧ Pv i H) ∧ m + i = n, ⟨n, ⟨Nat.zero_le _, h0⟩, rfl⟩, ?_⟩
  rintro i m H ⟨⟨hi, p⟩, hm⟩
  rcases Nat.lt_or_ge i n with hlt | hge
  · exact .inr ⟨w.goes i H hlt (hG i H hi p), Pv (i + 1), fun H' p' => ⟨m - 1, by omega, ⟨hlt, p'⟩, by omega⟩, fun x H' y => hs i x H H' hlt p (w.yields i H x H' hlt (hG i H hi p) y)⟩
  · have e : i = n := Nat.le_antisymm hi hge
    rw [e] at p ⊢
    exact .inl ⟨w.stops H (hG n H (Nat.le_refl _) p), hd H p⟩
/-- the outer loop -/
theorem out_it {J : It} {n : Nat} {G : Hp → Prop} {Y : Nat → Hp → V → Hp → Prop} (w : Walk J n G Y) {H0 : Hp} {Qd : Hp → Prop} {B : V → Hp → (Hp → Prop) → Prop} (Pv : Nat → Hp → Prop) (h0 : Pv 0 H0) (hG : ∀ i H, i ≤ n → Pv i H → G H)
    (hs : ∀ i x H H', i < n → Pv i H → Y i H x H' → B x H' (Pv (i + 1))) (hd : ∀ H, Pv n H → Qd H) :
    ∃ W : Nat → Nat → Hp → Prop, (∃ m, W 0 m H0) ∧ ∀ i m H, W i m H → (J.stop i H ∧ Qd H) ∨ (J.go i H ∧ ∃ N : Hp → Prop, (∀ H', N H' → ∃ m', m' < m ∧ W (i + 1) m' H') ∧ ∀ x H', J.yld i H x H' → B x H' N) := by
  refine ⟨fun i m H => (i ≤ n ∧ Pv i H) ∧ m + i = n, ⟨n, ⟨Nat.zero_le _, h0⟩, rfl⟩, ?_⟩
  rintro i m H ⟨⟨hi, p⟩, hm⟩
  rcases Nat.lt_or_ge i n with hlt | hge
  · exact .inr ⟨w.goes i H hlt (hG i H hi p), Pv (i + 1), fun H' p' => ⟨m - 1, by omega, ⟨hlt, p'⟩, by omega⟩, fun x H' y => hs i x H H' hlt p (w.yields i H x H' hlt (hG i H hi p) y)⟩
  · have e : i = n := Nat.le_antisymm hi hge
    rw [e] at p ⊢
    exact .inl ⟨w.stops H (hG n H (Nat.le_refl _) p), hd H p⟩
section
variable {P : Addr → Prop} {α1 : List Addr} {H1 : Hp} {D : Addr} {e e1 : DE} {σ σ2 : L2.St} {vs1 : List Nat}
/-- what the inner loop keeps -/
structure Inn (P : Addr → Prop) (α1 : List Addr) (H1 : Hp) (D : Addr) (e e1 : DE) (σ σ2 : L2.St) (α4 : List Addr) (H4 : Hp) (α5 : List Addr) (w5 : Wd) (acc : List PyData) (xs : List V) (H5 : Hp) : Prop where
  u : UpE α1 H1 α5 H5
  kp : ∀ b o, H4 b = some o → ¬ Msk (fun b => P b ∨ b = D) α4 e1 σ2 b → H5 b = some o
  mu : ∀ b ∈ α5, b ∈ α4 ∨ H4 b = none
  R : Rel (fun b => P b ∨ b = D) α5 e w5 σ H5
  R1 : Rel (fun b => P b ∨ b = D) α5 e1 w5 σ2 H5
  hx : H5 D = some (.lst xs)
  dv : DvA (Msk (fun b => P b ∨ b = D) α5 e σ) H5 xs acc
theorem inner_step {wi1 : TI} {it1 : I1} {gt1 : TG} {g1 : G1} {t1 : T1} {x : X1} {vs' : List Nat} (gd : GD gt1 g1 vs') (hvs : ∀ i ∈ vs', i ∈ vs1) (hD1 : H1 D = none) (owE : ∀ b, OwnAt e σ b → OwnAt e1 σ2 b) (hk : okW e1 vs1 = true)
    {α4 : List Addr} {H4 : Hp} {w4 wI : Wd} {js acc r1 : List PyData} {xs : List V} {S : Addr → Prop} {J : It} {Nx : Hp → Prop} (I0 : Inn P α1 H1 D e e1 σ σ2 α4 H4 α4 w4 acc xs H4) (hS : ∀ b, S b → ¬ Msk (fun b => P b ∨ b = D) α4 e1 σ2 b)
    (src : Src (Msk (fun b => P b ∨ b = D) α4 e1 σ2) S H4 js J) (hgo : lcGo g1 t1 x (wipeE e1 vs1) js w4 = some (r1, wI)) (hlen : acc.length + r1.length ≤ LIM)
    (hN : ∀ α5 H5 xs, Inn P α1 H1 D e e1 σ σ2 α4 H4 α5 wI (acc ++ r1) xs H5 → Nx H5) :
    ∃ W : Nat → Nat → Hp → Prop, (∃ m, W 0 m H4) ∧ ∀ i m H, W i m H →
      (J.stop i H ∧ Nx H) ∨ (J.go i H ∧ ∃ N : Hp → Prop, (∀ H', N H' → ∃ m', m' < m ∧ W (i + 1) m' H') ∧ ∀ y H', J.yld i H y H' → gt1 y (wipe σ2 vs1) H' fun σ3 H2 => wipe σ3 vs1 = wipe σ2 vs1 ∧ tDT t1 σ3 H2 fun b H3 =>
        if b = true then tD x σ3 H3 fun y H5 => ∃ acc, H5 D = some (.lst acc) ∧ acc.length < sizeLine ∧ N (upd H5 D (.lst (acc ++ [y]))) else N H3) := by
  obtain ⟨G, Y, wk, hG, hY⟩ := src
  refine in_it wk (fun j H5 => ∃ α5 w5 acc5 xs5 rest, Inn P α1 H1 D e e1 σ σ2 α4 H4 α5 w5 acc5 xs5 H5 ∧ lcGo g1 t1 x (wipeE e1 vs1) (js.drop j) w5 = some (rest, wI) ∧ acc5 ++ rest = acc ++ r1) ⟨α4, w4, acc, xs, r1, I0, hgo, rfl⟩ ?_ ?_ ?_
  · rintro i H5 hi ⟨α5, w5, acc5, xs5, rest, I5, hg5, he⟩
    exact hG H5 fun b o hb h => I5.kp b o h (hS b hb)
  · rintro i y0 H5 H6 hi ⟨α5, w5, acc5, xs5, rest, I5, hg5, he⟩ y
    have hd : js[i]? = some js[i] := List.getElem?_eq_getElem hi
    generalize hq : js[i] = d0 at hd
    have hdrop : js.drop i = d0 :: js.drop (i + 1) := by
      rw [List.drop_eq_getElem_cons hi, hq]
    rw [hdrop] at hg5
    unfold lcGo at hg5
    have R0 := I5.R1.wiped hk
    obtain ⟨sm, dx⟩ := hY i d0 H5 y0 H6 (Msk (fun b => P b ∨ b = D) α5 (wipeE e1 vs1) (wipe σ2 vs1)) hd y R0.mut fun v d' h => by
      refine h.up (fun b o q n => I5.kp b o q n) fun b m => ?_
      rcases m with m | m | m
      · exact .inl (.inl m)
      · rcases I5.mu b m with z | z
        · exact .inl (.inr (.inl z))
        · exact .inr z
      · exact .inl (.inr (.inr ((own_wipe hk b).mp m)))
    have R6 := R0.same sm
    cases h3 : g1 d0 (wipeE e1 vs1) with
    | none => simp [h3] at hg5
    | some e3 =>
      simp only [h3] at hg5
      refine gd.run _ α5 _ w5 _ H6 y0 d0 e3 _ R6 dx h3 fun σ3 R7 ow kp l2 => ⟨?_, ?_⟩
      · rw [← wipe_wipe σ2 vs1]
        exact wipe_eq (fun j hj => kp j fun z => hj (hvs j z)) l2
      · have ow1 : ∀ b, OwnAt e1 σ2 b → OwnAt e3 σ3 b := fun b o => (ow b).mpr ((own_wipe hk b).mpr o)
        have ow0 : ∀ b, OwnAt e σ b → OwnAt e3 σ3 b := fun b o => ow1 b (owE b o)
        cases h4 : t1 e3 w5 with
        | none => simp [h4] at hg5
        | some p =>
          obtain ⟨b, w6⟩ := p
          refine ⟨_, α5, e3, w5, b, w6, R7, h4, fun H7 α7 u7 R8 => ?_⟩
          have uA : UpE α5 H5 α7 H7 := (UpE.of_same sm).trans u7
          have nD : D ∉ α5 := fun h => I5.R.pa D h (.inr rfl)
          have kpA : ∀ b o, H4 b = some o → ¬ Msk (fun b => P b ∨ b = D) α4 e1 σ2 b → H7 b = some o := fun b o h n => by
            have h5 := I5.kp b o h n
            refine uA.kp b o h5 fun hb => ?_
            rcases I5.mu b hb with z | z
            · exact n (.inr (.inl z))
            · rw [z] at h; cases h
          have muA : ∀ b ∈ α7, b ∈ α4 ∨ H4 b = none := fun b hb => by
            by_cases hb5 : b ∈ α5
            · exact I5.mu b hb5
            · have q5 := uA.fre b hb hb5
              by_cases hm : Msk (fun b => P b ∨ b = D) α4 e1 σ2 b
              · rcases hm with m | m | m
                · exact absurd q5 (I5.R.known (.inl m))
                · exact .inl m
                · exact absurd q5 (I5.R1.known (.inr (.inr m)))
              · cases q4 : H4 b with
                | none => exact .inr rfl
                | some o => rw [I5.kp b o q4 hm] at q5; cases q5
          cases b with
          | false =>
            simp only [h4] at hg5
            refine iteF ?_
            exact ⟨α7, w6, acc5, xs5, rest, ⟨I5.u.trans uA, kpA, muA, I5.R.carry uA R8 ow0, I5.R1.carry uA R8 ow1, uA.kp D _ I5.hx nD, I5.dv.upE uA⟩, hg5, he⟩
          | true =>
            simp only [h4] at hg5
            refine iteT ?_
            cases h5 : x e3 w6 with
            | none => simp [h5] at hg5
            | some p =>
              obtain ⟨ra, w7⟩ := p
              simp only [h5] at hg5
              match ra, h5, hg5 with
              | .v d', h5, hg5 =>
                simp only at hg5
                cases h6 : lcGo g1 t1 x (wipeE e1 vs1) (js.drop (i + 1)) w7 with
                | none => simp [h6] at hg5
                | some p =>
                  obtain ⟨rest', w8⟩ := p
                  simp only [h6] at hg5
                  cases hg5
                  refine ⟨_, α7, e3, w6, _, w7, R8, h5, fun v4 H8 α8 u8 R9 i9 => ?_⟩
                  have uB : UpE α5 H5 α8 H8 := uA.trans u8
                  have hx8 : H8 D = some (.lst xs5) := uB.kp D _ I5.hx nD
                  have RC := I5.R.carry uB R9 ow0
                  have RC1 := I5.R1.carry uB R9 ow1
                  have i5 : Dv (Msk (fun b => P b ∨ b = D) α8 e σ) H8 v4 d' := Dv.less (show Dv _ H8 v4 d' from i9) fun b => Msk.le ow0
                  have nm : ∀ b o, H8 b = some o → ¬ Msk (fun b => P b ∨ b = D) α8 e σ b → (upd H8 D (.lst (xs5 ++ [v4]))) b = some o := fun b o h n => by
                    rw [upd_ne (fun z => n (.inl (.inr z)))]
                    exact h
                  have hl4 : xs5.length = acc5.length := I5.dv.length
                  have hle := congrArg List.length he
                  rw [List.length_append, List.length_append, List.length_cons] at hle
                  refine ⟨xs5, hx8, lim_lt (by omega), α8, w7, acc5 ++ [d'], xs5 ++ [v4], rest', ⟨(I5.u.trans uB).mut hD1, fun b o h n => ?_, fun b hb => ?_, RC.turn trivial, RC1.turn trivial, upd_same, ?_⟩, h6, ?_⟩
                  · rw [upd_ne (fun z => n (.inl (.inr z)))]
                    have h7 := kpA b o h n
                    refine u8.kp b o h7 fun hb => ?_
                    rcases muA b hb with z | z
                    · exact n (.inr (.inl z))
                    · rw [z] at h; cases h
                  · by_cases hb7 : b ∈ α7
                    · exact muA b hb7
                    · have q7 := u8.fre b hb hb7
                      by_cases hm : Msk (fun b => P b ∨ b = D) α4 e1 σ2 b
                      · rcases hm with m | m | m
                        · exact absurd (uA.ex b q7) (I5.R.known (.inl m))
                        · exact .inl m
                        · exact absurd (uA.ex b q7) (I5.R1.known (.inr (.inr m)))
                      · cases q4 : H4 b with
                        | none => exact .inr rfl
                        | some o => rw [kpA b o q4 hm] at q7; cases q7
                  · exact ((I5.dv.upE uB).append (.cons i5 .nil)).up nm fun b m => .inl m
                  · rw [List.append_assoc]
                    exact he
  · rintro H5 ⟨α5, w5, acc5, xs5, rest, I5, hg5, he⟩
    rw [List.drop_length] at hg5
    cases hg5
    rw [List.append_nil] at he
    subst he
    exact hN α5 H5 xs5 I5
end
theorem lc2_step {wi wi1 : TI} {it it1 : I1} {gt gt1 : TG} {g g1 : G1} {t t1 : T1} {x : X1} {vs vs1 vs' vs1' : List Nat} (so : SrcOw wi it) (gd : GD gt g vs') (hvs : ∀ i ∈ vs', i ∈ vs) (so1 : SrcOf wi1 it1) (gd1 : GD gt1 g1 vs1') (hvs1 : ∀ i ∈ vs1', i ∈ vs1)
    {σ : L2.St} {H : Hp} {Q : VK} (q : tF (xLc2 vs vs1 it g t it1 g1 t1 x) σ H Q) : tLc2 wi gt (tDT t) wi1 gt1 (tDT t1) (tD x) vs vs1 σ H Q := by
  obtain ⟨P, α, e, w, r, wE, R, hf, k⟩ := q
  unfold xLc2 at hf
  by_cases hk : okW e vs = true
  case neg => rw [if_neg hk] at hf; cases hf
  rw [if_pos hk] at hf
  cases h1 : it e w with
  | none => simp [h1] at hf
  | some p =>
    obtain ⟨items, w1⟩ := p
    simp only [h1] at hf
    cases h2 : lc2Go g t it1 g1 t1 x vs1 (wipeE e vs) items w1 with
    | none => simp [h2] at hf
    | some p =>
      obtain ⟨r0, w2⟩ := p
      simp only [h2] at hf
      by_cases hlen : r0.length ≤ LIM
      case neg => rw [if_neg hlen] at hf; cases hf
      rw [if_pos hlen] at hf
      cases hf
      refine so.run σ H _ ⟨P, α, e, w, items, w1, R, h1, fun J S H1 α1 u1 R1 hS hlim src D hD => ?_⟩
      obtain ⟨G, Y, wk, hG, hY⟩ := src
      refine out_it wk (fun i H' => ∃ α' w' acc xs rest, UpE α1 H1 α' H' ∧ Rel (fun b => P b ∨ b = D) α' e w' σ H' ∧ H' D = some (.lst xs) ∧ DvA (Msk (fun b => P b ∨ b = D) α' e σ) H' xs acc ∧ lc2Go g t it1 g1 t1 x vs1 (wipeE e vs) (items.drop i) w' = some (rest, wE) ∧ r = acc ++ rest)
        ⟨α1, w1, [], [], r, (UpE.refl α1 H1).mut hD, R1.guard hD trivial, upd_same, .nil, h2, rfl⟩ ?_ ?_ ?_
      · rintro i H' hi ⟨α', w', acc, xs, rest, u, R', hx, dv, hgo, hr⟩
        exact hG H' fun b o hb h => u.kp b o h (hS b hb)
      · rintro i x0 H' H'' hi ⟨α', w', acc, xs, rest, u, R', hx, dv, hgo, hr⟩ y
        have hd : items[i]? = some items[i] := List.getElem?_eq_getElem hi
        generalize hq : items[i] = d0 at hd
        have hdrop : items.drop i = d0 :: items.drop (i + 1) := by
          rw [List.drop_eq_getElem_cons hi, hq]
        rw [hdrop] at hgo
        unfold lc2Go at hgo
        have R0 : Rel (fun b => P b ∨ b = D) α' (wipeE e vs) w' (wipe σ vs) H' := R'.wiped hk
        obtain ⟨sm, dx⟩ := hY i d0 H' x0 H'' (Msk (fun b => P b ∨ b = D) α' (wipeE e vs) (wipe σ vs)) hd y R0.mut fun v d' h => by
          refine h.up (fun b o q n => u.kp b o q fun hb => n (.inr (.inl hb))) fun b m => ?_
          rcases m with (m | m) | m | m
          · exact .inl (.inl m)
          · exact .inr (by rw [m]; exact hD)
          · by_cases hb : b ∈ α1
            · exact .inl (.inr (.inl hb))
            · exact .inr (u.fre b m hb)
          · exact .inl (.inr (.inr ((own_wipe hk b).mp m)))
        have R1' := R0.same sm
        cases h3 : g d0 (wipeE e vs) with
        | none => simp [h3] at hgo
        | some e1 =>
          simp only [h3] at hgo
          refine gd.run _ α' _ w' _ H'' x0 d0 e1 _ R1' dx h3 fun σ2 R2 ow kp l2 => ⟨?_, ?_⟩
          · rw [← wipe_wipe σ vs]
            exact wipe_eq (fun j hj => kp j fun z => hj (hvs j z)) l2
          · have owE : ∀ b, OwnAt e σ b → OwnAt e1 σ2 b := fun b o => (ow b).mpr ((own_wipe hk b).mpr o)
            have nD' : D ∉ α' := fun h => R'.pa D h (.inr rfl)
            cases h4 : t e1 w' with
            | none => simp [h4] at hgo
            | some p =>
              obtain ⟨b, w3⟩ := p
              refine ⟨_, α', e1, w', b, w3, R2, h4, fun H3 α3 u3 R3 => ?_⟩
              have uA : UpE α' H' α3 H3 := (UpE.of_same sm).trans u3
              have hx3 : H3 D = some (.lst xs) := uA.kp D _ hx nD'
              cases b with
              | false =>
                simp only [h4] at hgo
                refine iteF ?_
                exact ⟨α3, w3, acc, xs, rest, u.trans uA, R'.carry uA R3 owE, hx3, dv.upE uA, hgo, hr⟩
              | true =>
                simp only [h4] at hgo
                refine iteT ?_
                by_cases hk1 : okW e1 vs1 = true
                case neg => rw [if_neg hk1] at hgo; cases hgo
                rw [if_pos hk1] at hgo
                cases h5 : it1 e1 w3 with
                | none => simp [h5] at hgo
                | some p =>
                  obtain ⟨js, w4⟩ := p
                  simp only [h5] at hgo
                  cases h6 : lcGo g1 t1 x (wipeE e1 vs1) js w4 with
                  | none => simp [h6] at hgo
                  | some p =>
                    obtain ⟨r1, w5⟩ := p
                    simp only [h6] at hgo
                    cases h7 : lc2Go g t it1 g1 t1 x vs1 (wipeE e vs) (items.drop (i + 1)) w5 with
                    | none => simp [h7] at hgo
                    | some p =>
                      obtain ⟨r2, w6⟩ := p
                      simp only [h7] at hgo
                      cases hgo
                      refine so1.run σ2 H3 _ ⟨_, α3, e1, w3, js, w4, R3, h5, fun J1 S1 H4 α4 u4 R4 hS1 hlim1 src1 => ?_⟩
                      have uB : UpE α' H' α4 H4 := uA.trans u4
                      have hx4 : H4 D = some (.lst xs) := uB.kp D _ hx nD'
                      have I0 : Inn P α1 H1 D e e1 σ σ2 α4 H4 α4 w4 acc xs H4 := ⟨u.trans uB, fun b o h _ => h, fun b hb => .inl hb, R'.carry uB R4 owE, R4, hx4, dv.upE uB⟩
                      have hle := congrArg List.length hr
                      simp only [List.length_append] at hle
                      exact inner_step (wi1 := wi1) (it1 := it1) gd1 hvs1 hD owE hk1 I0 hS1 src1 h6 (by omega) fun α5 H5 xs5 I5 => ⟨α5, w5, acc ++ r1, xs5, r2, I5.u, I5.R, I5.hx, I5.dv, h7, by rw [List.append_assoc]; exact hr⟩
      · rintro H' ⟨α', w', acc, xs, rest, u, R', hx, dv, hgo, hr⟩
        rw [List.drop_length] at hgo
        cases hgo
        rw [List.append_nil] at hr
        subst hr
        refine k D xs H' α' (u1.trans u) ?_ R' hx dv hlen
        cases q : H D with
        | none => rfl
        | some o =>
          have hb : D ∉ α := fun hb => by
            obtain ⟨β, hβ⟩ := u1.pre
            exact R1.known (.inr (.inl (by rw [hβ]; exact List.mem_append_left _ hb))) hD
          have := u1.kp D o q hb
          rw [hD] at this
          cases this
section
variable {X : Cx}
theorem f_lc2 {elt tg iter tg1 iter1 : Expr} {ifs ifs1 : List Expr} {scope : Scope} {own : List (Str × Nat)} {vs1 : List Nat} {pos : Pos} {wi wi1 : TI} {it it1 : I1} {gt gt1 : TG} {g g1 : G1} {t t1 : T1} {x : X1} {vs' vs1' : List Nat} (hc : X.calm = true) (hN : X.N.Nodup) (hi : PI X tg iter wi) (so : SrcOw wi it) (ok : BlkOk X.N X.env.scope scope own)
    (hv : ∀ i ∈ vs1, i ∈ own.map (·.2))
    (hg : ∀ (s : Shared) (H : Hp) (C : Addr) (cl : List (Str × Addr)) (fp : List Addr), PG (X.blk s H scope (compEnvC scope cl C X.env) fp) tg gt) (gd : GD gt g vs') (hvs : ∀ i ∈ vs', i ∈ own.map (·.2))
    (ht : ∀ (s : Shared) (H : Hp) (C : Addr) (cl : List (Str × Addr)) (fp : List Addr), PTs (X.blk s H scope (compEnvC scope cl C X.env) fp) ifs (tDT t))
    (hi1 : ∀ (s : Shared) (H : Hp) (C : Addr) (cl : List (Str × Addr)) (fp : List Addr), PI (X.blk s H scope (compEnvC scope cl C X.env) fp) tg1 iter1 wi1) (so1 : SrcOf wi1 it1)
    (hg1 : ∀ (s : Shared) (H : Hp) (C : Addr) (cl : List (Str × Addr)) (fp : List Addr), PG (X.blk s H scope (compEnvC scope cl C X.env) fp) tg1 gt1) (gd1 : GD gt1 g1 vs1') (hvs1 : ∀ i ∈ vs1', i ∈ vs1)
    (ht1 : ∀ (s : Shared) (H : Hp) (C : Addr) (cl : List (Str × Addr)) (fp : List Addr), PTs (X.blk s H scope (compEnvC scope cl C X.env) fp) ifs1 (tDT t1))
    (he : ∀ (s : Shared) (H : Hp) (C : Addr) (cl : List (Str × Addr)) (fp : List Addr), PE (X.blk s H scope (compEnvC scope cl C X.env) fp) elt (tD x)) (hs : ∀ x, foldedSetIterable iter X.env x = pure x := by intro _; rfl) (hs1 : ∀ env x, foldedSetIterable iter1 env x = pure x := by intro _ _; rfl) :
    PE X (.ListComp elt [⟨tg, iter, ifs, 0⟩, ⟨tg1, iter1, ifs1, 0⟩] scope pos) (tF (xLc2 (own.map (·.2)) vs1 it g t it1 g1 t1 x)) := (pe_lc2 hc hN hi ok hv hg ht hi1 hg1 ht1 he hs hs1).imp fun _ _ _ q => lc2_step so gd hvs so1 gd1 hvs1 q
end
end DL
namespace DL
open PySem PySem.Spec PyProof.Rows L2

/-! ### < of numbers and rows -/
section
variable {X : Cx}
def rLtA (K : PySem.W.Frag) : R2 := fun x y H Q => (rI0 fun i j => .bl (decide (i < j))) x y H Q ∨ rLtT K x y H Q
theorem op_ltA (hu : X.A.units + 64 < cLine) : OpR X (compareOp .Lt) (rLtA X.K) := OpR.or op_lt (op_ltT (by omega))
def gLtA : PyData → PyData → Option PyData
  | .int i, .int j => some (.bool (decide (i < j)))
  | .tuple ds, .tuple es => match intsD ds, intsD es with
    | some ns, some ms => some (.bool (HT.lexLt ns ms))
    | _, _ => none
  | _, _ => none
theorem p_ltA {K : PySem.W.Frag} : Pure2 (rLtA K) gLtA := fun M H x y d e z Q hm hx hy hg k => by
  unfold gLtA at hg
  split at hg
  · rename_i i j
    cases hg
    exact .inl ⟨i, j, hx.int, hy.int, k _ H (fun _ _ h => h) (.atm (.bl _))⟩
  · rename_i ds es
    split at hg
    · rename_i ns ms h1 h2
      cases hg
      obtain ⟨a, xs, rfl, _, r1, q1, _⟩ := hx.tup
      obtain ⟨b, ys, rfl, _, r2, q2, _⟩ := hy.tup
      rw [intsD_eq h1] at q1
      rw [intsD_eq h2] at q2
      rw [ints_v q1] at r1
      rw [ints_v q2] at r2
      exact .inr ⟨a, b, ns, ms, rfl, rfl, .inl r1, .inl r2, k _ H (fun _ _ h => h) (.atm (.bl _))⟩
    · cases hg
  · cases hg

/-! ### tuple * number -/
def rMulA (K : PySem.W.Frag) : R2 := fun x y H Q => (rI CMul fun i j => .int (i * j)) x y H Q ∨ rRepT K x y H Q
theorem op_mulA : OpR X (binaryOp .Mult) (rMulA X.K) := OpR.or op_mul op_repT
def gMulA : PyData → PyData → Option PyData
  | .tuple ds, .int k => if ds ≠ [] ∧ 2 ≤ k ∧ k ≤ 1000 ∧ ds.length ≤ 1000 then some (.tuple (List.replicate k.toNat ds).flatten) else none
  | d, e => gMul d e
theorem rep_dv {M : Addr → Prop} {H : Hp} {xs : List V} {ds : List PyData} (q : DvA M H xs ds) : ∀ n : Nat, DvA M H (List.replicate n xs).flatten (List.replicate n ds).flatten
  | 0 => .nil
  | n + 1 => by
    rw [List.replicate_succ, List.replicate_succ, List.flatten_cons, List.flatten_cons]
    exact q.append (rep_dv q n)
theorem rep_len {A : Type} (ds : List A) : ∀ n : Nat, (List.replicate n ds).flatten.length = n * ds.length
  | 0 => by simp
  | n + 1 => by
    rw [List.replicate_succ, List.flatten_cons, List.length_append, rep_len ds n, Nat.succ_mul, Nat.add_comm]
theorem p_mulA {K : PySem.W.Frag} : Pure2 (rMulA K) gMulA := fun M H x y d e z Q hm hx hy hg k => by
  unfold gMulA at hg
  split at hg
  · rename_i ds n
    by_cases h : ds ≠ [] ∧ 2 ≤ n ∧ n ≤ 1000 ∧ ds.length ≤ 1000
    case neg => rw [if_neg h] at hg; cases hg
    rw [if_pos h] at hg
    cases hg
    obtain ⟨h1, h2, h3, h4⟩ := h
    obtain ⟨a, xs, rfl, _, r1, q1, _⟩ := hx.tup
    have hl := q1.length
    refine .inr ⟨a, n, xs, rfl, hy.int, .inl r1, fun e => ?_, h2, h3, by omega, fun p hp => ?_⟩
    · rw [e] at hl
      exact h1 (List.eq_nil_of_length_eq_zero hl.symm)
    · refine k _ _ (same_upd hp) (new_tup hm hp (rep_dv q1 _) ?_)
      rw [rep_len]
      have : n.toNat * ds.length ≤ 1000 * 1000 := Nat.mul_le_mul (by omega) h4
      exact this
  · exact .inl (p_mul M H x y d e z _ hm hx hy hg k)
end
/-! ### a def that calls itself: at no depth nothing is said -/
theorem ok_never {P : Program} {w : World} {K : PySem.W.Frag} {mg : Str → Option Value} {base : Heap} {k n : Nat} {f : Addr} {fd : FuncData} (ps : List Str) : FnOk P w K mg base CX0 k f fd ps (spP n fun _ => none) :=
  { len := fun vs H Q E q => by
      obtain ⟨_, _, _, _, _, _, z, _⟩ := q
      cases z
    run := fun A outer s H args us vs Q E _ _ _ _ q => by
      obtain ⟨_, _, _, _, _, _, z, _⟩ := q
      cases z }
end DL
namespace DL
open PySem PySem.Spec PyProof.Rows L2

/-! ### enumerate(tuple) -/
set_option maxHeartbeats 1000000 in
theorem meets_enum1 {v : Value} {o : Obj} {G : Heap → Prop} (B : Begins v o G) :
    Meets (Builtin.«enumerate.__new__» ⟨[.type "enumerate", v], []⟩) (fun _ R s => G s.heap ∧
      R (.ok (.ret (.ref (s.heap.push o).objs.size))) { s with heap := (s.heap.push o).push { cls := .type "enumerate", data := .fields #[.none, .bool false, .ref s.heap.objs.size, rawInt 0, .none, .none] } }) :=
  .of_wp fun prog w A R s h => by
    obtain ⟨hp, g, d, tk, os⟩ := s
    obtain ⟨h1, h⟩ := h
    have hsub := sub_enumerate
    have q1 : ∀ {A' : Around} {E : Value → Shared → Prop} {Q : Value → Shared → Prop}, Q (.ref hp.objs.size) ⟨hp.push o, g, d, tk, os⟩ → wpAny (model prog w) A' (pyIter v) Q E ⟨hp, g, d, tk, os⟩ :=
      fun q => B.iter prog w _ _ ⟨hp, g, d, tk, os⟩ _ h1 q
    wp_walk using q1
    refine wpAny_stack_any fun st => wpAny_pure ?_
    split
    · rename_i c _ _ _ _ _
      cases (c == Value.type "enumerate")
      · wp_walk using q1
        exact ⟨_, rfl, h⟩
      · wp_walk using q1
        exact ⟨_, rfl, h⟩
    · wp_walk using q1
      exact ⟨_, rfl, h⟩
theorem call_enum1 {prog : Program} {w : World} {A : Around} {E : Value → Shared → Prop} {s : Shared} {v : Value} {o : Obj} {G : Heap → Prop} {Q : Value → Shared → Prop} (B : Begins v o G) (h1 : G s.heap)
    (h : ∀ h', IsEnum h' (s.heap.objs.size + 1) s.heap.objs.size 0 .none → h'.get? s.heap.objs.size = some o → h'.objs.size = s.heap.objs.size + 2 →
      (∀ b u, s.heap.get? b = some u → h'.get? b = some u) → Q (.ref (s.heap.objs.size + 1)) { s with heap := h' }) : wpAny (model prog w) A (call (.type "enumerate") [v]) Q E s := by
  refine callType_new F.called_enumerate (by decide) (F.typeCall_enumerate_1 _) (F.newCall_enumerate_1 _) (fun obj => F.args_object_init_2 obj _) F.entry_enumerate_new (meets_enum1 B) ⟨h1, ?_⟩
  have hz : (s.heap.push o).objs.size = s.heap.objs.size + 1 := Heap.size_push ..
  have he : IsEnum ((s.heap.push o).push { cls := .type "enumerate", data := .fields #[.none, .bool false, .ref s.heap.objs.size, rawInt 0, .none, .none] }) (s.heap.objs.size + 1) s.heap.objs.size 0 .none := by
    have q := Heap.get?_push_size (s.heap.push o) (o := { cls := .type "enumerate", data := .fields #[.none, .bool false, .ref s.heap.objs.size, rawInt 0, .none, .none] }) rfl
    rwa [hz] at q
  show _ ∧ _
  rw [hz]
  exact ⟨⟨_, he, rfl⟩, h _ he (Heap.get?_push_of_some _ (Heap.get?_push_size _ B.free)) (by rw [Heap.size_push, hz]) fun b u x => Heap.get?_push_of_some _ (Heap.get?_push_of_some _ x)⟩
/-- the tuple at a, each item in a new pair -/
def ItEt (K : PySem.W.Frag) (a : Addr) : It :=
  ⟨fun i H => ∃ (xs : List V) (x : V), SqT K H a xs ∧ xs[i]? = some x, fun i H v H' => ∃ T x, v = .ref T ∧ H T = none ∧ H' = upd H T (.tup [.int (i : Nat), x]) ∧ ∀ xs, SqT K H a xs → xs[i]? = some x, fun i H => ∃ xs : List V, SqT K H a xs ∧ xs.length = i⟩
theorem walk_enumT {K : PySem.W.Frag} {a : Addr} {xs : List V} : Walk (ItEt K a) xs.length (fun H => SqT K H a xs) (YPair (fun i => some (.int (i : Nat))) (fun i => xs[i]?)) where
  goes := fun i _ hi q => ⟨xs, xs[i], q, List.getElem?_eq_getElem hi⟩
  stops := fun _ q => ⟨xs, q, rfl⟩
  yields := fun i H v H' _ q y => by
    obtain ⟨T, x, h1, h2, h3, h4⟩ := y
    exact ⟨T, _, x, h1, h2, h3, rfl, h4 xs q⟩
theorem turn_enumT {P : Program} {w : World} {K : PySem.W.Frag} {elts : List Expr} {kk : Nat} {tpos : Pos} (a e it : Addr) :
    Turn P w K (.Tuple elts kk tpos) (ItEt K a) [e, it] e (fun i h => (∃ old, IsEnum h e it ((i : Nat) : Int) old) ∧ h.IsTupleIter it a i ∧ e ≠ it ∧ e ≠ a ∧ a ≠ it) where
  mem := List.mem_cons_self ..
  obj := fun i h st b hb => by
    obtain ⟨⟨old, he⟩, ⟨o, ho, hc, hd⟩, _⟩ := st
    rcases List.mem_cons.mp hb with z | z
    · subst z
      exact ⟨_, he, fun v q => nomatch q⟩
    · rw [List.mem_singleton.mp z]
      exact ⟨o, ho, fun v q => by rw [hd] at q; cases q⟩
  keep := fun i h h' st k => by
    obtain ⟨⟨old, he⟩, hi, r⟩ := st
    exact ⟨⟨old, k e (by simp) _ he⟩, hi.at fun o q => k it (by simp) o q, r⟩
  item := by
    intro X hP hw hK hc i pins s σ H E I hf st hg
    subst hP hw hK
    obtain ⟨⟨old, he⟩, hit, hne, hea, hai⟩ := st
    obtain ⟨xs, x, hq, hx⟩ := hg
    obtain ⟨its, rv, p, hz⟩ := I.tuple hq
    obtain ⟨u, hu, ru⟩ := rv.get hx
    have hel : e < s.heap.objs.size := Heap.lt_size he
    have hil : it < s.heap.objs.size := by
      obtain ⟨_, q, _⟩ := hit
      exact Heap.lt_size q
    have hlt : i < its.toArray.size := by
      have := (List.getElem?_eq_some_iff.mp hu).1
      simpa using this
    refine wpAny_pyNext_enum_itemD (Draws.tuple (prog := X.prog) (w := X.w) (A := X.A.in1) (I.ok.hd hc) it a hai its.toArray) he ⟨hit, p⟩ hlt hne (by simp [hne, hea]) fun x' h' tk hP ho hit' hT hsz hk => ?_
    have ex : x' = u := by
      have h2 : its.toArray[i]? = some u := by simpa using hu
      rw [h2] at hP
      exact (Option.some.inj hP).symm
    subst ex
    refine ⟨_, rfl, wpAny_letOwnedTupleGo_enum (s := { s with heap := h', toks := tk + 1 }) ho fun h'' he' sb => ?_⟩
    have hT2 : h''.get? s.heap.objs.size = some { cls := .type "tuple", data := .seq #[.int i tk, x'] } := (sb.2 _ (Nat.ne_of_gt hel)).trans hT
    have new : ObjOk X.prog X.w (upd H s.heap.objs.size (.tup [.int (i : Nat), x])) h'' s.heap.objs.size (.tup [.int (i : Nat), x]) :=
      ⟨by show 2 ≤ sizeLine; decide, [.int i tk, x'], .cons ⟨_, rfl⟩ (.cons ru .nil), ⟨_, hT2, rfl, _, rfl⟩⟩
    have I1 : Inv X pins σ (upd H s.heap.objs.size (.tup [.int (i : Nat), x])) { s with heap := h'', toks := tk + 1 } :=
      I.turnedNew (ch := [e, it]) (fun b ob hb q => (sb.2 b (fun z => hb (by simp [z]))).trans (hk b ob (fun z => hb (by simp [z])) (fun z => hb (by simp [z])) q)) hf (Nat.le_refl _) new
    refine ⟨.ref s.heap.objs.size, _, I1, rfl, ⟨_, x, rfl, I.hok.fresh (Nat.le_refl _), rfl, fun ys hy => by rw [I.tuple_inj hy hq]; exact hx⟩, ⟨⟨x', ?_⟩, hit'.1.at fun o q => (sb.2 it (Ne.symm hne)).trans q, hne, hea, hai⟩, fun b hb => ?_⟩
    · have e1 : ((i + 1 : Nat) : Int) = (i : Int) + 1 := by omega
      rw [e1]
      exact he'
    · have hb' : b < s.heap.objs.size := by
        rcases List.mem_cons.mp hb with z | z
        · rw [z]; exact hel
        · rw [List.mem_singleton.mp z]; exact hil
      rw [upd_ne (Nat.ne_of_lt hb')]
      exact (hf b hb).1
  done := by
    intro X hP hw hK hc i pins s σ H E I hf st hg
    subst hP hw hK
    obtain ⟨⟨old, he⟩, hit, hne, hea, hai⟩ := st
    obtain ⟨xs, hq, hx⟩ := hg
    obtain ⟨its, rv, p, hz⟩ := I.tuple hq
    obtain ⟨f0, f1, f2, f3, f4, f5⟩ := hf it (by simp)
    have hl := rv.length
    have hsz : its.toArray.size = i := by
      simp only [List.size_toArray]
      omega
    have hok := Draws.tuple (prog := X.prog) (w := X.w) (A := X.A.in1) (I.ok.hd hc) it a hai its.toArray
    rw [hsz] at hok
    exact wpAny_pyNext_enum_endD hok he ⟨hit, p⟩ fun h' eb => ⟨rfl, I.turned (t' := s.toks) (fun b o hb q => eb b o hb q) f0 f1 f3 f4 f5⟩
  self := fun A i s Q E st h => let ⟨⟨_, he⟩, _⟩ := st; wpAny_pyIter_enum he h
section
variable {X : Cx} {f : X1} {e : Expr} {p pos tpos : Pos} {elts : List Expr} {kk : Nat}
def iEnumTu (K : PySem.W.Frag) (ta : TA) : TI := fun σ H R => ta σ H fun vs H1 => ∃ a xs, vs = [.ref a] ∧ SqT K H1 a xs ∧ R (ItEt K a) H1
theorem pi_enumT {ta : TA} (hg : Gl X "enumerate") (hm : X.mg "enumerate" = none) (ha : PA X [e] ta) (hs : starEach [e] X.env = [(false, eval e X.env)] := by rfl) :
    PI X (.Tuple elts kk tpos) (.Call (.Name "enumerate" p) [e] [] pos) (iEnumTu X.K ta) := by
  refine ⟨fun pins s σ H R I h => ?_⟩
  refine Call_ (ld_blt I hg hm boot_enumerate (PyProof.Rows.callWith_type1 (thn (ha.run pos pins s σ H _ I h) fun us s1 ⟨vs, H1, I1, r1, a, xs, ex, hq, q⟩ => ?_) hs rfl))
  subst ex
  cases r1 with
  | cons r rr =>
    cases rr
    cases r
    have ht := I1.tuple hq
    obtain ⟨its, rv, p', hz⟩ := ht
    have hal : a < s1.heap.objs.size := by
      obtain ⟨_, q, _⟩ := p'
      exact Heap.lt_size q
    refine call_enum1 (begins_tuple a its.toArray) p' fun h' he hit hsz hk => wpAny_pyIter_enum he ?_
    have I2 : Inv X pins σ H1 { s1 with heap := h' } := I1.kept (t' := s1.toks) hk
    have hne1 : s1.heap.objs.size + 1 ≠ a := Nat.ne_of_gt (Nat.lt_succ_of_lt hal)
    have hne2 : a ≠ s1.heap.objs.size := Nat.ne_of_lt hal
    have tu := turn_enumT (P := X.prog) (w := X.w) (K := X.K) (elts := elts) (kk := kk) (tpos := tpos) a (s1.heap.objs.size + 1) s1.heap.objs.size
    refine ⟨s1.heap.objs.size + 1, [s1.heap.objs.size + 1, s1.heap.objs.size], _, _, H1, rfl, I2, tu, ⟨⟨.none, he⟩, ⟨_, hit, rfl, rfl⟩, Nat.succ_ne_self _, hne1, hne2⟩, fun b hb => ?_, q⟩
    have hle : s1.heap.objs.size ≤ b := by
      rcases List.mem_cons.mp hb with z | z
      · rw [z]; exact Nat.le_add_right _ _
      · rw [List.mem_singleton.mp z]; exact Nat.le_refl _
    exact I1.fpOk hle (I1.hok.fresh hle)
theorem src_enumT {K : PySem.W.Frag} {M1 : Addr → Prop} {H1 : Hp} {a : Addr} {xs : List V} {ds : List PyData} (h : Rd H1 a (.tup xs)) (dv : DvA M1 H1 xs ds) : Src M1 (fun b => b = a) H1 (enumL 0 ds) (ItEt K a) := by
  refine ⟨fun H => SqT K H a xs, YPair (fun i => some (.int (i : Nat))) (fun i => xs[i]?), by rw [enumL_len, ← dv.length]; exact walk_enumT, fun H2 q => .inl (rd_mono h fun o e => q a o rfl e), ?_⟩
  intro i d H2 x H3 M2 hd y hm tr
  obtain ⟨T, x1, y1, rfl, hT, rfl, q1, q2⟩ := y
  obtain ⟨z, hz, rfl⟩ := enumL_get 0 i ds d hd
  obtain ⟨v, h1, h2⟩ := dv.get hz
  simp only at q1 q2
  rw [h1] at q2
  cases q1
  cases q2
  rw [Nat.zero_add]
  exact pair_new hT hm (.atm (.int _)) (tr _ _ h2)
/-- enumerate of a list or a tuple -/
def iEnumD (f : X1) : I1 := fun e w => match f e w with
  | some (.v (.list ds), w1) => some (enumL 0 ds, w1)
  | some (.v (.tuple ds), w1) => some (enumL 0 ds, w1)
  | _ => none
theorem pi_enumD {ta : TA} (hg : Gl X "enumerate") (hm : X.mg "enumerate" = none) (ha : PA X [e] ta) (hs : starEach [e] X.env = [(false, eval e X.env)] := by rfl) :
    PI X (.Tuple elts kk tpos) (.Call (.Name "enumerate" p) [e] [] pos) (fun σ H R => iEnum X.K ta σ H R ∨ iEnumTu X.K ta σ H R) := PI.or (pi_enum hg hm ha hs) (pi_enumT hg hm ha hs)
theorem so_enumD {K : PySem.W.Frag} : SrcOf (fun σ H R => iEnum K (tDA (aCons f aNil)) σ H R ∨ iEnumTu K (tDA (aCons f aNil)) σ H R) (iEnumD f) := ⟨fun σ H R ⟨P, α, e, w, ds, w', r, hf, k⟩ => by
  unfold iEnumD at hf
  cases h1 : f e w with
  | none => simp [h1] at hf
  | some q =>
    obtain ⟨ra, w1⟩ := q
    simp only [h1] at hf
    match ra, h1, hf with
    | .v (.list ds'), h1, hf =>
      cases hf
      refine .inl ⟨P, α, e, w, [.v (.list ds')], w', r, by unfold aCons aNil; simp [h1], fun vs H1 α1 u1 R1 i1 => ?_⟩
      cases i1 with
      | cons a b =>
        cases b with
        | nil =>
          cases (show Dv _ _ _ (.list ds') from a) with
          | atm q => cases q
          | @lst a0 xs _ nm rd lm q => exact ⟨a0, xs, rfl, .inl rd, k _ (fun b => b = a0) H1 α1 u1 R1 (fun b hb => by rw [hb]; exact nm) (by rw [enumL_len]; exact lm) (src_enum rd q)⟩
    | .v (.tuple ds'), h1, hf =>
      cases hf
      refine .inr ⟨P, α, e, w, [.v (.tuple ds')], w', r, by unfold aCons aNil; simp [h1], fun vs H1 α1 u1 R1 i1 => ?_⟩
      cases i1 with
      | cons a b =>
        cases b with
        | nil =>
          cases (show Dv _ _ _ (.tuple ds') from a) with
          | atm q => cases q
          | @tup a0 xs _ nm rd0 lm q => have rd : Rd _ a0 (.tup xs) := .inl rd0; exact ⟨a0, xs, rfl, .inl rd, k _ (fun b => b = a0) H1 α1 u1 R1 (fun b hb => by rw [hb]; exact nm) (by rw [enumL_len]; exact lm) (src_enumT rd q)⟩⟩
end
end DL
namespace DL
open PySem PySem.Spec PyProof.Rows L2
section
variable {X : Cx} {c x y : Expr} {pos : Pos} {t u v : T1}
/-! ### a if t else b, as a test -/
def tIfB (t u v : T1) : T1 := fun e w => match t e w with
  | some (true, w1) => u e w1
  | some (false, w1) => v e w1
  | none => none
theorem dt_if (a : PT X c (tDT t)) (b : PT X x (tDT u)) (d : PT X y (tDT v)) : PT X (.IfExp c x y pos) (tDT (tIfB t u v)) := ⟨fun pins s σ H Q I q => by
  obtain ⟨P, α, e, w, r, w', R, hf, k⟩ := q
  unfold tIfB at hf
  rw [arm_isTrue_IfExp]
  cases h1 : t e w with
  | none => simp [h1] at hf
  | some p =>
    obtain ⟨z, w1⟩ := p
    have ha := a.run pins s σ H (fun z' H1 => z' = z ∧ ∃ α1, UpE α H α1 H1 ∧ Rel P α1 e w1 σ H1) I ⟨P, α, e, w, z, w1, R, h1, fun H1 α1 u1 R1 => ⟨rfl, α1, u1, R1⟩⟩
    refine wpAny_bind (thn ha ?_)
    rintro z' s1 ⟨H1, I1, rfl, α1, u1, R1⟩
    simp only [h1] at hf
    cases z' with
    | true => exact b.run pins s1 σ H1 Q I1 ⟨P, α1, e, w1, r, w', R1, hf, fun H2 α2 u2 R2 => k H2 α2 (u1.trans u2) R2⟩
    | false => exact d.run pins s1 σ H1 Q I1 ⟨P, α1, e, w1, r, w', R1, hf, fun H2 α2 u2 R2 => k H2 α2 (u1.trans u2) R2⟩⟩
theorem d_globI {n : Str} {i : Int} (hg : Gl X n) (hm : ∃ tk, X.mg n = some (.int i tk)) (hd : (n == ("__debug__" : Str)) = false := by decide) : PE X (.Name n pos) (tD (xC (.int i))) := by
  obtain ⟨tk, hm⟩ := hm
  exact d_glob hg hm (v := V.int i) (d := .int i) ⟨tk, rfl⟩ (.int i) hd
end
end DL
namespace DL
open PySem PySem.Spec PyProof.Rows L2
section
variable {X : Cx} {x y : Expr} {pos : Pos} {f h : X1}
/-- a, b = x, y: the second a new list, which the def goes on to change -/
def sParO (i j : Nat) (f h : X1) : S1 := fun e w => match f e w with
  | some (.v d, w1) => match h e w1 with
    | some (.v (.list ds), w2) => some (.nx ((e.set i (some (.v d))).set j (some (.own ds))) w2)
    | _ => none
  | _ => none
theorem parO_step {i j : Nat} (hij : i ≠ j) {D : Ends} {σ : L2.St} {H : Hp} (q : tS (sParO i j f h) D σ H) : tPar i j (tCons (tD f) (tCons (tF h) tNil)) D σ H := by
  obtain ⟨P, α, e, w, o, R, hf, k⟩ := q
  unfold sParO at hf
  cases h1 : f e w with
  | none => simp [h1] at hf
  | some q =>
    obtain ⟨ra, w1⟩ := q
    simp only [h1] at hf
    match ra, h1, hf with
    | .v d, h1, hf =>
      simp only at hf
      cases h2 : h e w1 with
      | none => simp [h2] at hf
      | some q =>
        obtain ⟨rb, w2⟩ := q
        simp only [h2] at hf
        match rb, h2, hf with
        | .v (.list ds), h2, hf =>
          cases hf
          refine ⟨P, α, e, w, .v d, w1, R, h1, fun v H1 α1 u1 R1 i1 => ⟨P, α1, e, w1, ds, w2, R1, h2, fun p xs H2 α2 u2 hp R2 hx dv hl => ?_⟩⟩
          refine ⟨v, .ref p, rfl, ?_⟩
          have hp0 : H p = none := u1.ex p hp
          have iv : Dv (Msk (fun b => P b ∨ b = p) α2 e σ) H2 v d := Dv.up (show Dv (Msk P α1 e σ) H1 v d from i1) (fun b o q n => u2.kp b o q fun hb => n (.inr (.inl hb))) fun b m => by
            rcases m with (m | m) | m | m
            · exact .inl (.inl m)
            · exact .inr (by rw [m]; exact hp)
            · by_cases hb : b ∈ α1
              · exact .inl (.inr (.inl hb))
              · exact .inr (u2.fre b m hb)
            · exact .inl (.inr (.inr m))
          have R3 := R2.put (i := i) (x := .v d) (v := v) (nv d) iv
          have dv3 : DvA (Msk (fun b => P b ∨ b = p) α2 (e.set i (some (.v d))) (σ.set i (some v))) H2 xs ds := dv.less fun c m => Msk.le (fun c => own_put (nv d)) m
          refine k _ H2 α2 ⟨(u1.trans u2).pre, (u1.trans u2).fre, fun b o h n _ => (u1.trans u2).kp b o h n, (u1.trans u2).ex, fun b ⟨l, es, q1, q2⟩ => ?_⟩ (R3.own hx dv3 hl fun z => not_P R hp0 (.inl z))
          rcases set_get q1 with ⟨hj, _⟩ | ⟨hn, q3⟩
          · subst hj
            rcases set_get q2 with ⟨_, q⟩ | ⟨hn, _⟩
            · cases q; exact .inr hp0
            · exact absurd rfl hn
          · rw [List.getElem?_set_ne hn] at q2
            rcases set_get q3 with ⟨_, q4⟩ | ⟨hm, q4⟩
            · exact absurd q4 (nv d es)
            · rw [List.getElem?_set_ne hm] at q2
              exact .inl ⟨l, es, q4, q2⟩
theorem ds_parO {i j : Nat} {n m : Str} {px py pt : Pos} {kt k2 pt2} (hc : X.calm = true) (hN : X.N.Nodup) (hi : X.N[i]? = some n) (hj : X.N[j]? = some m) (hij : i ≠ j)
    (hx : X.env.scope.names.lookup n = some .local) (hy : X.env.scope.names.lookup m = some .local) (a : PE X x (tD f)) (b : PE X y (tF h))
    (hw : swappedStores [.Tuple [.Name n px, .Name m py] kt pt] (.Tuple [x, y] k2 pt2) X.env = pure (some [n, m]))
    (na : starEach [x, y] X.env = (false, eval x X.env) :: starEach [y] X.env := by rfl) (nb : starEach [y] X.env = (false, eval y X.env) :: starEach [] X.env := by rfl)
    (hs : swapsWithSole [.Tuple [.Name n px, .Name m py] kt pt] (.Tuple [x, y] k2 pt2) pos.line X.env = pure false := by rfl) :
    PS X (.Assign [.Tuple [.Name n px, .Name m py] kt pt] (.Tuple [x, y] k2 pt2) pos) (tS (sParO i j f h)) := (ps_par hc hN hi hj hij hx hy (pa_cons a (pa_cons b pa_nil nb) na) hw hs).imp fun D σ H q => parO_step hij q
end
end DL
namespace DL
open PySem PySem.Spec PyProof.Rows L2
/-! ### sorted(set(xs)), xs a list of pairs of small numbers -/
def cdP (p : Int × Int) : Int := p.1 * 64 + p.2
def unP (c : Int) : Int × Int := (c / 64, c % 64)
def loP (p : Int × Int) : Prop := 0 ≤ p.1 ∧ p.1 < 64 ∧ 0 ≤ p.2 ∧ p.2 < 64
instance (p : Int × Int) : Decidable (loP p) := by unfold loP; infer_instance
theorem un_cd {p : Int × Int} (h : loP p) : unP (cdP p) = p := by
  obtain ⟨x, y⟩ := p
  obtain ⟨h1, h2, h3, h4⟩ := h
  simp only at h1 h2 h3 h4
  simp only [unP, cdP, Prod.mk.injEq]
  omega
def setP (ps : List (Int × Int)) : List (Int × Int) := (setD (ps.map cdP)).map unP
theorem setP_mem {ps : List (Int × Int)} (h : ∀ p ∈ ps, loP p) (p : Int × Int) : p ∈ setP ps ↔ p ∈ ps := by
  unfold setP
  simp only [List.mem_map, setD_mem]
  constructor
  · rintro ⟨c, ⟨q, hq, rfl⟩, rfl⟩
    rw [un_cd (h q hq)]
    exact hq
  · exact fun hp => ⟨cdP p, ⟨p, hp, rfl⟩, un_cd (h p hp)⟩
theorem setP_pw {ps : List (Int × Int)} (h : ∀ p ∈ ps, loP p) : (setP ps).Pairwise lexlt := by
  unfold setP
  refine List.pairwise_map.mpr (List.Pairwise.imp_of_mem ?_ (setD_pw (ps.map cdP)))
  intro a b ha hb hab
  obtain ⟨p, hp, rfl⟩ := List.mem_map.mp ((setD_mem _ _).mp ha)
  obtain ⟨q, hq, rfl⟩ := List.mem_map.mp ((setD_mem _ _).mp hb)
  rw [un_cd (h p hp), un_cd (h q hq)]
  obtain ⟨a1, a2, a3, a4⟩ := h p hp
  obtain ⟨b1, b2, b3, b4⟩ := h q hq
  unfold cdP at hab
  unfold lexlt
  omega
theorem setP_len (ps : List (Int × Int)) : (setP ps).length ≤ ps.length := by
  unfold setP
  rw [List.length_map]
  have : ∀ ns : List Int, (setD ns).length ≤ ns.length := fun ns => by
    induction ns with
    | nil => exact Nat.le_refl _
    | cons n r ih =>
      have h2 : ∀ l : List Int, (insD n l).length ≤ l.length + 1 := fun l => by
        induction l with
        | nil => exact Nat.le_refl _
        | cons m r ih =>
          unfold insD
          split
          · exact Nat.le_refl _
          · split
            · simp
            · simp only [List.length_cons]
              omega
      have h3 := h2 (setD r)
      show (insD n (setD r)).length ≤ r.length + 1
      omega
  have := this (ps.map cdP)
  rwa [List.length_map] at this
def pairsD : List PyData → Option (List (Int × Int))
  | [] => some []
  | .tuple [.int a, .int b] :: r => (pairsD r).map ((a, b) :: ·)
  | _ :: _ => none
theorem pairsD_map : ∀ ps : List (Int × Int), pairsD (ps.map dOf) = some ps
  | [] => rfl
  | (a, b) :: r => by
    show (pairsD (r.map dOf)).map _ = _
    rw [pairsD_map r]
    rfl
theorem pairsD_eq : ∀ {ds : List PyData} {ps : List (Int × Int)}, pairsD ds = some ps → ds = ps.map dOf
  | [], ps, h => by cases h; rfl
  | d :: r, ps, h => by
    unfold pairsD at h
    split at h
    · rename_i h0; cases h0
    · rename_i a b r' h0
      cases h0
      cases q : pairsD r with
      | none => simp [q] at h
      | some ms =>
        simp only [q, Option.map_some] at h
        cases h
        rw [pairsD_eq q]
        rfl
    · cases h
theorem pairs_v {M : Addr → Prop} {H : Hp} : ∀ {xs : List V} {ps : List (Int × Int)}, DvA M H xs (ps.map dOf) → ∃ ks : List (Addr × List Int), xs = ks.map (fun k => V.ref k.1) ∧ (∀ k ∈ ks, ¬ M k.1 ∧ H k.1 = some (.tup (k.2.map V.int))) ∧ ks.map (·.2) = ps.map fun p => [p.1, p.2]
  | _, [], h => by
    cases h
    exact ⟨[], rfl, by simp, rfl⟩
  | _, p :: r, h => by
    cases h with
    | cons a b =>
      obtain ⟨ks, rfl, h2, h3⟩ := pairs_v b
      cases (show Dv _ _ _ (.tuple [.int p.1, .int p.2]) from a) with
      | atm q => cases q
      | @tup t xs _ nm rd0 lm q =>
        have rd : Rd _ t (.tup xs) := .inl rd0
        have e := ints_v (ns := [p.1, p.2]) q
        subst e
        refine ⟨(t, [p.1, p.2]) :: ks, rfl, fun k hk => ?_, by simp [h3]⟩
        rcases List.mem_cons.mp hk with rfl | hk
        · exact ⟨nm, rd0⟩
        · exact h2 k hk
def gSortSetP : PyData → Option PyData
  | .list ds => match pairsD ds with
    | some ps => if ps.length < 60 ∧ ∀ p ∈ ps, loP p then some (.list ((setP ps).map dOf)) else none
    | none => none
  | _ => none
theorem rows_eq {L : List (List Int)} {ps : List (Int × Int)} (h : ∀ p ∈ ps, loP p) (hm : ∀ r, r ∈ L ↔ r ∈ ps.map fun p => [p.1, p.2]) (hn : L.Nodup) (hw : L.Pairwise fun q r => TS.code 64 q ≤ TS.code 64 r) : L = (setP ps).map fun p => [p.1, p.2] := by
  have hL : ∀ r ∈ L, ∃ p ∈ ps, r = [p.1, p.2] := fun r hr => by
    obtain ⟨p, hp, rfl⟩ := List.mem_map.mp ((hm r).mp hr)
    exact ⟨p, hp, rfl⟩
  have hc : ∀ p : Int × Int, TS.code 64 [p.1, p.2] = cdP p := fun p => code_pair p.1 p.2
  have h1 : (L.map (TS.code 64)).Pairwise (· < ·) := by
    refine List.pairwise_map.mpr ?_
    have := List.Pairwise.and hn hw
    refine List.Pairwise.imp_of_mem ?_ this
    intro a b ha hb hab
    obtain ⟨p, hp, rfl⟩ := hL a ha
    obtain ⟨q, hq, rfl⟩ := hL b hb
    obtain ⟨hne, hle⟩ := hab
    rw [hc, hc] at hle ⊢
    rcases Int.lt_or_eq_of_le hle with z | z
    · exact z
    · exfalso
      have : unP (cdP p) = unP (cdP q) := by rw [z]
      rw [un_cd (h p hp), un_cd (h q hq)] at this
      exact hne (by rw [this])
  have h2 : L.map (TS.code 64) = setD (ps.map cdP) := by
    refine sorted_one h1 (setD_pw _) fun k => ?_
    rw [setD_mem]
    simp only [List.mem_map]
    constructor
    · rintro ⟨r, hr, rfl⟩
      obtain ⟨p, hp, rfl⟩ := hL r hr
      exact ⟨p, hp, (hc p).symm⟩
    · rintro ⟨p, hp, rfl⟩
      exact ⟨[p.1, p.2], (hm _).mpr (List.mem_map_of_mem (f := fun p : Int × Int => [p.1, p.2]) hp), hc p⟩
  unfold setP
  rw [← h2, List.map_map, List.map_map]
  refine (List.map_id' L).symm.trans (List.map_congr_left fun r hr => ?_)
  obtain ⟨p, hp, rfl⟩ := hL r hr
  simp only [Function.comp_apply, hc, un_cd (h p hp)]
theorem rows_dv {M : Addr → Prop} {H : Hp} : ∀ {L : List (Addr × List Int)} {ps : List (Int × Int)}, (∀ k ∈ L, ¬ M k.1 ∧ H k.1 = some (.tup (k.2.map V.int))) → L.map (·.2) = ps.map (fun p => [p.1, p.2]) → DvA M H (L.map fun k => V.ref k.1) (ps.map dOf)
  | [], [], _, _ => .nil
  | [], _ :: _, _, e => by simp at e
  | _ :: _, [], _, e => by simp at e
  | k :: L, p :: ps, h, e => by
    simp only [List.map_cons, List.cons.injEq] at e
    obtain ⟨e1, e2⟩ := e
    have hk := h k (List.mem_cons_self ..)
    rw [e1] at hk
    exact .cons (.tup hk.1 hk.2 (by show 2 ≤ 1000000; decide) (dva_ints [p.1, p.2])) (rows_dv (fun k hk => h k (List.mem_cons_of_mem _ hk)) e2)
theorem p_sortSetP {K : PySem.W.Frag} {P : Program} {w : World} : Pure1 (fun v H Q => rSetOfT K P w [v] H fun v2 H2 => rSortedT K P w [v2] H2 Q) gSortSetP := fun M H x d z Q hm hx hg k => by
  match d, hx, hg with
  | .list ds, hx, hg =>
    unfold gSortSetP at hg
    simp only at hg
    cases h1 : pairsD ds with
    | none => simp [h1] at hg
    | some ps =>
      simp only [h1] at hg
      by_cases h2 : ps.length < 60 ∧ ∀ p ∈ ps, loP p
      case neg => rw [if_neg h2] at hg; cases hg
      rw [if_pos h2] at hg
      cases hg
      obtain ⟨hl, hb⟩ := h2
      obtain ⟨l, xs, rfl, rd, q, _⟩ := hx.lst
      rw [pairsD_eq h1] at q
      obtain ⟨ks, rfl, hk, he⟩ := pairs_v q
      have hkl : ks.length = ps.length := by
        have := congrArg List.length he
        simpa using this
      refine ⟨l, ks, rfl, .inl rd, fun p hp => .inl (.inl (hk p hp).2), by omega, fun a L ha hL hA => ?_⟩
      have sm1 : Same H (upd H a (SetTO P w a L)) := same_upd ha
      have hrow : ∀ p ∈ L, ∃ q ∈ ps, p.2 = [q.1, q.2] := fun p hp => by
        have := List.mem_map_of_mem (f := fun p : Addr × List Int => p.2) (hL p hp)
        rw [he] at this
        obtain ⟨q, hq, e⟩ := List.mem_map.mp this
        exact ⟨q, hq, e.symm⟩
      refine ⟨a, L, 2, 64, rfl, upd_same, fun p hp => .inl (.inl (sm1 _ _ (hk p (hL p hp)).2)), by decide, fun p hp => ?_, fun L' p pm nd hf pw hp => ?_⟩
      · obtain ⟨q, hq, e⟩ := hrow p hp
        rw [e]
        obtain ⟨b1, b2, b3, b4⟩ := hb q hq
        refine ⟨rfl, fun i hi => ?_⟩
        simp only [List.mem_cons, List.not_mem_nil, or_false] at hi
        rcases hi with rfl | rfl
        · exact ⟨b1, b2⟩
        · exact ⟨b3, b4⟩
      · have sm2 := same_upd (o := .lst (L'.map fun q => V.ref q.1)) hp
        have sm3 : Same H (upd (upd H a (SetTO P w a L)) p (.lst (L'.map fun q => V.ref q.1))) := fun b o e => sm2 b o (sm1 b o e)
        have hL' : ∀ q ∈ L', q ∈ ks := fun q hq => hL q (pm.mem_iff.mp hq)
        have er : L'.map (·.2) = (setP ps).map fun p => [p.1, p.2] := rows_eq hb (fun r => by
          constructor
          · intro hr
            obtain ⟨q, hq, rfl⟩ := List.mem_map.mp hr
            rw [← he]
            exact List.mem_map_of_mem (f := fun p : Addr × List Int => p.2) (hL' q hq)
          · intro hr
            rw [← he] at hr
            obtain ⟨q, hq, rfl⟩ := List.mem_map.mp hr
            exact (pm.map (·.2)).mem_iff.mpr (hA q hq)) nd (List.pairwise_map.mpr pw)
        have hH : H p = none := by
          by_cases e : p = a
          · rw [e]; exact ha
          · rw [upd_ne e] at hp; exact hp
        refine k _ _ sm3 (.lst (fresh_mut hm hH) (.inl upd_same) ?_ (rows_dv (fun q hq => ⟨(hk q (hL' q hq)).1, sm3 _ _ (hk q (hL' q hq)).2⟩) er))
        have := setP_len ps
        rw [List.length_map]
        show (setP ps).length ≤ 1000000
        omega
section
variable {X : Cx} {x : Expr} {pos : Pos} {f : X1}
def gSortSetA (d : PyData) : Option PyData := match gSortSet d with
  | some z => some z
  | none => gSortSetP d
theorem p_orG {r1 r2 : V → Hp → VK → Prop} {g1 g2 : PyData → Option PyData} (h1 : Pure1 r1 g1) (h2 : Pure1 r2 g2) : Pure1 (fun v H Q => r1 v H Q ∨ r2 v H Q) (fun d => match g1 d with | some z => some z | none => g2 d) := fun M H x d z Q hm hx hg k => by
  cases q : g1 d with
  | some z' =>
    simp only [q] at hg
    cases hg
    exact .inl (h1 M H x d _ Q hm hx q k)
  | none =>
    simp only [q] at hg
    exact .inr (h2 M H x d z Q hm hx hg k)
theorem callR_or {v : Value} {r1 r2 : List V → Hp → VK → Prop} (h1 : CallR X v r1) (h2 : CallR X v r2) : CallR X v (fun xs H Q => r1 xs H Q ∨ r2 xs H Q) := fun pins s σ H xs us Q I r h => h.elim (h1 pins s σ H xs us Q I r) (h2 pins s σ H xs us Q I r)
theorem PE.or2 {t1 t2 : TE} {e : Expr} (h1 : PE X e (fun σ H Q => t1 σ H Q)) (h2 : PE X e (fun σ H Q => t2 σ H Q)) : PE X e (fun σ H Q => t1 σ H Q ∨ t2 σ H Q) := ⟨fun pins s σ H Q I q => q.elim (h1.run pins s σ H Q I) (h2.run pins s σ H Q I)⟩
theorem d_sortSetP {p q pos2 : Pos} (hu : X.A.units + 64 < cLine) (hc : X.calm = true) (hg : Gl X "sorted") (hm : X.mg "sorted" = none) (hg2 : Gl X "set") (hm2 : X.mg "set" = none) (a : PE X x (tD f))
    (na : starEach [.Call (.Name "set" q) [x] [] pos2] X.env = (false, eval (.Call (.Name "set" q) [x] [] pos2) X.env) :: starEach [] X.env := by rfl) (nb : starEach [x] X.env = (false, eval x X.env) :: starEach [] X.env := by rfl)
    (ha : (backTo pos (starEach [] X.env)).any (·.1) = false := by rfl) (hb : (backTo pos2 (starEach [] X.env)).any (·.1) = false := by rfl) :
    PE X (.Call (.Name "sorted" p) [.Call (.Name "set" q) [x] [] pos2] [] pos) (tD (x1 gSortSetP f)) :=
  (pe_callB (cr_sortedT hc) hg hm boot_sorted_ (pa_cons (pe_callTy (cr_setOfT hc hu) hg2 hm2 boot_set_ (pa_cons a pa_nil nb) (by decide) (by decide) nb hb) pa_nil na) (by decide) (by decide) na ha).imp fun σ H Q q => step1 p_sortSetP q
theorem x1_or {g1 g2 : PyData → Option PyData} {e : DE} {w : Wd} {r : RS × Wd} (h : x1 (fun d => match g1 d with | some z => some z | none => g2 d) f e w = some r) : x1 g1 f e w = some r ∨ x1 g2 f e w = some r := by
  unfold x1 at h ⊢
  cases h1 : f e w with
  | none => simp [h1] at h
  | some p =>
    obtain ⟨ra, w1⟩ := p
    simp only [h1] at h ⊢
    cases h2 : valOf e w1 ra with
    | none => simp [h2] at h
    | some d =>
      simp only [h2] at h ⊢
      cases h3 : g1 d with
      | some z =>
        simp only [h3] at h ⊢
        exact .inl h
      | none =>
        simp only [h3] at h ⊢
        exact .inr h
theorem d_sortSetA {p q pos2 : Pos} (hu : X.A.units + 64 < cLine) (hc : X.calm = true) (hg : Gl X "sorted") (hm : X.mg "sorted" = none) (hg2 : Gl X "set") (hm2 : X.mg "set" = none) (a : PE X x (tD f))
    (na : starEach [.Call (.Name "set" q) [x] [] pos2] X.env = (false, eval (.Call (.Name "set" q) [x] [] pos2) X.env) :: starEach [] X.env := by rfl) (nb : starEach [x] X.env = (false, eval x X.env) :: starEach [] X.env := by rfl)
    (ha : (backTo pos (starEach [] X.env)).any (·.1) = false := by rfl) (hb : (backTo pos2 (starEach [] X.env)).any (·.1) = false := by rfl) :
    PE X (.Call (.Name "sorted" p) [.Call (.Name "set" q) [x] [] pos2] [] pos) (tD (x1 gSortSetA f)) :=
  ⟨fun pins s σ H Q I h => by
    obtain ⟨P, α, e, w, r, w', R, hf, k⟩ := h
    rcases x1_or (g1 := gSortSet) (g2 := gSortSetP) hf with z | z
    · exact (d_sortSet hc hg hm hg2 hm2 a na nb ha hb).run pins s σ H Q I ⟨P, α, e, w, r, w', R, z, k⟩
    · exact (d_sortSetP hu hc hg hm hg2 hm2 a na nb ha hb).run pins s σ H Q I ⟨P, α, e, w, r, w', R, z, k⟩⟩
end
end DL
namespace DL
open PySem PySem.Spec PyProof.Rows L2
/-! ### tuple * 1 -/
theorem tuple_once (l : Addr) (items : Array Value) (n : Nat) (dd : Option Addr) (sl : Array (Option Value)) (u : Tok) :
    Meets (Builtin.«tuple.__mul__» ⟨[.ref l, .int 1 u], []⟩) (fun _ R s => s.heap.get? l = some { cls := .type "tuple", dict := dd, data := .seq items n, slots := sl } ∧ R (.ok (.ret (Value.ref l))) s) :=
  .of_wp fun prog w A R s h => by
    obtain ⟨hp, g, d, tk, os⟩ := s
    obtain ⟨hl, h⟩ := h
    have f1 := AutoSeq1.idx_int
    have e1 : (items.isEmpty || (1 : Int) == 1) = true := by rw [show ((1 : Int) == 1) = true from rfl, Bool.or_true]
    wp_walk using wpAny_loadPart' hl
    repeat (first
      | (refine wpAny_ite_true (decide_eq_true (by rw [e1])) ?_; wp_walk using wpAny_loadPart' hl)
      | (refine wpAny_ite_false (decide_eq_false (by decide)) ?_; wp_walk using wpAny_loadPart' hl))
    exact ⟨_, rfl, h⟩
section
variable {X : Cx}
def rRep1 (K : PySem.W.Frag) : R2 := fun x y H Q => ∃ l xs, x = .ref l ∧ y = .int 1 ∧ SqT K H l xs ∧ Q (.ref l) H
theorem op_rep1 : OpR X (binaryOp .Mult) (rRep1 X.K) := by
  intro pins s σ H x y v u Q I rx ry h
  obtain ⟨l, xs, rfl, rfl, hT, q⟩ := h
  cases rx
  obtain ⟨t, rfl⟩ := ry
  obtain ⟨its, r, ⟨⟨cls, dd, data, sl⟩, ho, hc, n, hd⟩, hs⟩ := I.tuple hT
  simp only at hc hd
  subst hc hd
  exact wpAny_binaryOp_repeat_ref (T := "tuple") (U := "int") (by decide) ⟨_, ho, rfl⟩ (fun s' => typeIs_int s' 1 t) noFill_tuple_mul F.fills_int_mul F.slot_int_rmul repeat_tuple F.slot_int_index.lookup
    (call_meets F.slot_int_rmul (typeIs_int s 1 t) F.entry_int_rmul (F.args_int_rmul_2 _ _) (int_rmul_tuple 1 t l its.toArray n dd sl)
      ⟨ho, rfl, ⟨_, ho, rfl⟩, call_meets F.slot_tuple_mul ⟨_, ho, rfl⟩ F.entry_tuple_mul (F.args_tuple_mul_2 _ _) (tuple_once l its.toArray n dd sl t) ⟨ho, ⟨.ref l, H, I, rfl, q⟩⟩⟩)
def rMulB (K : PySem.W.Frag) : R2 := fun x y H Q => rMulA K x y H Q ∨ rRep1 K x y H Q
theorem op_mulB : OpR X (binaryOp .Mult) (rMulB X.K) := OpR.or op_mulA op_rep1
def repD (k : Int) (ds : List PyData) : List PyData := (List.replicate k.toNat ds).flatten
def gMulB : PyData → PyData → Option PyData
  | .tuple ds, .int k => if ds ≠ [] ∧ 1 ≤ k ∧ k ≤ 1000 ∧ ds.length ≤ 1000 then some (.tuple (repD k ds)) else none
  | d, e => gMul d e
theorem p_mulB {K : PySem.W.Frag} : Pure2 (rMulB K) gMulB := fun M H x y d e z Q hm hx hy hg k => by
  unfold gMulB at hg
  split at hg
  · rename_i ds n
    by_cases h : ds ≠ [] ∧ 1 ≤ n ∧ n ≤ 1000 ∧ ds.length ≤ 1000
    case neg => rw [if_neg h] at hg; cases hg
    rw [if_pos h] at hg
    cases hg
    obtain ⟨h1, h2, h3, h4⟩ := h
    by_cases h5 : n = 1
    · subst h5
      obtain ⟨a, xs, rfl, nm, r1, q1, l1⟩ := hx.tup
      refine .inr ⟨a, xs, rfl, hy.int, .inl r1, ?_⟩
      have e : repD 1 ds = ds := by simp [repD]
      rw [e] at k
      exact k _ H (fun _ _ h => h) (Dv0.tupX hx)
    · refine .inl (p_mulA M H x y _ _ _ _ hm hx hy ?_ k)
      unfold gMulA
      simp only
      rw [if_pos ⟨h1, by omega, h3, h4⟩]
      rfl
  · exact .inl (.inl (p_mul M H x y d e z _ hm hx hy hg k))
end
end DL
namespace DL
open PySem PySem.Spec PyProof.Rows L2
/-! ### set(t), t a tuple of rows of numbers; set(l), l a list of numbers -/
def nuSet (w : World) : Obj := { cls := .type "set", dict := none, data := .set #[] 0 (.fresh 0 0 (!w.params.followText "set-order")) }
section
variable {P : Program} {w : World} {A : Around} {E : Value → Shared → Prop} {s : Shared}

set_option maxRecDepth 100000 in
set_option maxHeartbeats 3200000 in
theorem call_set_rows {l : Addr} {its : Array Value} (ks : List (Addr × List Int)) {Q : Value → Shared → Prop} (hh : A.handled = none) (hl : s.heap.IsTuple l its) (hit : its.toList = ks.map fun p => Value.ref p.1) (hk : ∀ p ∈ ks, IsT P w s.heap p.2 p.1) (hfew : ks.length < 64) (hu : A.units + 3 < cLine)
    (h : ∀ (h1 : Heap) (tk : Nat) L es ep t, SetTR P w h1 s.heap.objs.size L es ep t → Got ks ks.length L → (∀ b o, s.heap.get? b = some o → h1.get? b = some o) → Q (.ref s.heap.objs.size) { s with heap := h1, toks := tk }) : wpAny (model P w) A (call (.type "set") [.ref l]) Q E s := by
  have hlen : its.size = ks.length := by
    have q := congrArg List.length hit
    rwa [Array.length_toList, List.length_map] at q
  obtain ⟨c, tl, hmro⟩ := F.called_set.mro
  have a1 := F.called_set.made
  have a2 := F.called_set.sub
  refine wpAny_call (codeAny_of_tree ?_)
  show wpAny _ _ (callAny (.type "set") _) _ _ _
  refine wpAny_pure ⟨Code.quiet_builtin _ (by decide +kernel), codeAny_builtin F.entry_type_call ?_⟩
  rw [Around.under_plain (weight_type_call_type "set" [.ref l] []) rfl]
  have a3 := F.called_set.notType
  have a4 := F.called_set.canCreate
  have a5 := F.typeCall_set_1 (.ref l)
  repeat (any_goals (first | assumption | wp_step))
  refine codeAny_mono (code_set_led1 (.ref l) (E := E) (Q₁ := fun v s1 => v = .ref s.heap.objs.size ∧ s1 = { s with heap := s.heap.push (nuSet w) }) ⟨rfl, rfl⟩) fun r s1 hr => ?_
  cases r with
  | error e => exact hr
  | ok fl =>
    cases fl with
    | ret obj =>
      obtain ⟨rfl, rfl⟩ := hr
      have b0 : (s.heap.push (nuSet w)).get? s.heap.objs.size = some (nuSet w) := Heap.get?_push_size _ rfl
      have b1 : Shared.TypeIs { s with heap := s.heap.push (nuSet w) } (.ref s.heap.objs.size) "set" := ⟨_, b0, rfl⟩
      have b2 := F.called_set.init.lookup
      have b3 := F.called_set.init.bind (.ref s.heap.objs.size)
      repeat (any_goals (first | assumption | wp_step))
      refine codeAny_mono (codeAny_call_builtin (R := wants (fun r s2 => r = .none ∧ ∃ h1 tk L es ep t, s2 = { s with heap := h1, toks := tk } ∧ SetTR P w h1 s.heap.objs.size L es ep t ∧ Got ks ks.length L ∧ ∀ b o, s.heap.get? b = some o → h1.get? b = some o) E) F.called_set.init.plain F.entry_set_init (check_set_init_1 b1 ?_)) fun r2 s2 hr2 => ?_
      · obtain ⟨⟨k1, k2, k3, k4⟩, hol, hcl, nl, hdl⟩ := hl
        simp only at hcl hdl
        subst hcl
        subst hdl
        have g0 : (s.heap.push (nuSet w)).get? l = some { cls := .type "tuple", dict := k2, data := .seq its nl, slots := k4 } := Heap.get?_push_of_some _ hol
        have f1 := F.sub_tuple_set
        have f2 := F.sub_tuple_frozenset
        have f3 : (Value.type "tuple" == Value.type "dict") = false := by decide
        have g1 : (s.heap.push (nuSet w)).IsTuple l its := ⟨_, g0, rfl, nl, rfl⟩
        unfold nuSet at g0 g1 b0 b1 b3 ⊢
        unfold Builtin.«set.__init__» noKeywords Builtin.Frozenset.updateFrom
        generalize hPI : pyIter = PI
        wp_walk
        subst hPI
        refine wpAny_pyIter_tuple g1 ?_
        refine wpAny_bind (wpAny_runValue ?_)
        have g2 : l < s.heap.objs.size := Heap.lt_size hol
        have g3 : A.in1.in1.in1.handled = none := by simp [hh]
        have gz : ∀ o : Obj, (s.heap.push o).objs.size = s.heap.objs.size + 1 := fun o => Heap.size_push ..
        have nof : ∀ b, s.heap.objs.size ≤ b → s.heap.get? b = none := fun b hb => by
          cases q : s.heap.get? b with
          | none => rfl
          | some o => exact absurd (Heap.lt_size q) (Nat.not_lt.mpr hb)
        have hv : ∀ (i : Nat) (v : Value), its[i]? = some v → ∃ p, ks[i]? = some p ∧ v = .ref p.1 := fun i v e => by
          have q : its.toList[i]? = some v := by rw [Array.getElem?_toList]; exact e
          rw [hit, List.getElem?_map] at q
          cases z : ks[i]? with
          | none => rw [z] at q; cases q
          | some p => rw [z] at q; exact ⟨p, rfl, (Option.some.inj q).symm⟩
        refine set_update_tups ((Walks.tuple g3 _ l (by rw [gz]; exact Nat.ne_of_lt (Nat.lt_succ_of_lt g2)) its).toS) s.heap.objs.size (by rw [gz]; simp only [List.mem_cons, List.not_mem_nil, or_false, not_or]; exact ⟨Nat.ne_of_lt (Nat.lt_succ_self _), Nat.ne_of_gt g2⟩) ks hlen hfew hv s.heap hk (nof _ (Nat.le_refl _)) (fun b hb => nof b (by rw [List.mem_singleton.mp hb, gz]; exact Nat.le_succ _)) hu (its.size - 0) 0 _ (by omega) (Nat.zero_le _)
          ⟨⟨_, Heap.get?_push_size _ rfl, rfl, rfl⟩, (g1.push _)⟩ (fun b o e => Heap.get?_push_of_some _ (Heap.get?_push_of_some _ e)) ?c0 ?c1
        case c0 =>
          exact ⟨[], #[], 0, _, setTR_fresh (Heap.get?_push_of_some _ b0), Got.zero ks⟩
        case c1 =>
          intro s3 L es ep t hm r3 g kp
          obtain ⟨h1, x2, x3, tk, x5⟩ := s3
          obtain rfl : x2 = s.gens := hm.gens
          obtain rfl : x3 = s.drawn := hm.drawn
          obtain rfl : x5 = s.os := hm.os
          show wpAny _ _ _ _ _ _
          refine wpAny_pure ?_
          show wpAny _ _ (ret Value.none) _ _ _
          rw [hlen] at g
          exact wpAny_pure ⟨rfl, h1, tk, L, es, ep, t, rfl, r3, g, kp⟩
      · cases r2 with
        | error e => exact hr2
        | ok fl2 =>
          cases fl2 with
          | ret r => 
            obtain ⟨rfl, h1, tk, L, es, ep, t, rfl, r3, g, kp⟩ := hr2
            repeat (any_goals (first | assumption | wp_step))
            exact h _ _ _ _ _ _ r3 g kp
          | _ => exact hr2.elim
    | _ => exact hr.elim

set_option maxRecDepth 100000 in
set_option maxHeartbeats 3200000 in
theorem call_set_nums {l : Addr} {its : Array Value} (ns : List Int) {Q : Value → Shared → Prop} (hh : A.handled = none) (hl : s.heap.IsList l its) (hit : PyProof.Rows.IntsAre its.toList ns) (hb : ns.length + 1 < scanBound)
    (h : ∀ (h1 : Heap) (tk c : Nat), SetR w h1 s.heap.objs.size (fun j => decide (j ∈ ns)) c → c ≤ ns.length → (∀ b o, s.heap.get? b = some o → h1.get? b = some o) → Q (.ref s.heap.objs.size) { s with heap := h1, toks := tk }) : wpAny (model P w) A (call (.type "set") [.ref l]) Q E s := by
  have hlen : its.size = ns.length := by
    have q := PyProof.Rows.IntsAre.length hit
    rwa [Array.length_toList] at q
  obtain ⟨c, tl, hmro⟩ := F.called_set.mro
  have a1 := F.called_set.made
  have a2 := F.called_set.sub
  refine wpAny_call (codeAny_of_tree ?_)
  show wpAny _ _ (callAny (.type "set") _) _ _ _
  refine wpAny_pure ⟨Code.quiet_builtin _ (by decide +kernel), codeAny_builtin F.entry_type_call ?_⟩
  rw [Around.under_plain (weight_type_call_type "set" [.ref l] []) rfl]
  have a3 := F.called_set.notType
  have a4 := F.called_set.canCreate
  have a5 := F.typeCall_set_1 (.ref l)
  repeat (any_goals (first | assumption | wp_step))
  refine codeAny_mono (code_set_led1 (.ref l) (E := E) (Q₁ := fun v s1 => v = .ref s.heap.objs.size ∧ s1 = { s with heap := s.heap.push (nuSet w) }) ⟨rfl, rfl⟩) fun r s1 hr => ?_
  cases r with
  | error e => exact hr
  | ok fl =>
    cases fl with
    | ret obj =>
      obtain ⟨rfl, rfl⟩ := hr
      have b0 : (s.heap.push (nuSet w)).get? s.heap.objs.size = some (nuSet w) := Heap.get?_push_size _ rfl
      have b1 : Shared.TypeIs { s with heap := s.heap.push (nuSet w) } (.ref s.heap.objs.size) "set" := ⟨_, b0, rfl⟩
      have b2 := F.called_set.init.lookup
      have b3 := F.called_set.init.bind (.ref s.heap.objs.size)
      repeat (any_goals (first | assumption | wp_step))
      refine codeAny_mono (codeAny_call_builtin (R := wants (fun r s2 => r = .none ∧ ∃ h1 tk c, s2 = { s with heap := h1, toks := tk } ∧ SetR w h1 s.heap.objs.size (fun j => decide (j ∈ ns)) c ∧ c ≤ ns.length ∧ ∀ b o, s.heap.get? b = some o → h1.get? b = some o) E) F.called_set.init.plain F.entry_set_init (check_set_init_1 b1 ?_)) fun r2 s2 hr2 => ?_
      · obtain ⟨⟨k1, k2, k3, k4⟩, hol, hcl, nl, hdl⟩ := hl
        simp only at hcl hdl
        subst hcl
        subst hdl
        have g0 : (s.heap.push (nuSet w)).get? l = some { cls := .type "list", dict := k2, data := .seq its nl, slots := k4 } := Heap.get?_push_of_some _ hol
        have f1 := F.sub_list_set
        have f2 := F.sub_list_frozenset
        have f3 : (Value.type "list" == Value.type "dict") = false := by decide
        have g1 : (s.heap.push (nuSet w)).IsList l its := ⟨_, g0, rfl, nl, rfl⟩
        unfold nuSet at g0 g1 b0 b1 b3 ⊢
        unfold Builtin.«set.__init__» noKeywords Builtin.Frozenset.updateFrom
        generalize hPI : pyIter = PI
        wp_walk
        subst hPI
        refine wpAny_pyIter_list g1 ?_
        refine wpAny_bind (wpAny_runValue ?_)
        have g2 : l < s.heap.objs.size := Heap.lt_size hol
        have g3 : A.in1.in1.in1.handled = none := by simp [hh]
        have gz : ∀ o : Obj, (s.heap.push o).objs.size = s.heap.objs.size + 1 := fun o => Heap.size_push ..
        have nof : ∀ b, s.heap.objs.size ≤ b → s.heap.get? b = none := fun b hb => by
          cases q : s.heap.get? b with
          | none => rfl
          | some o => exact absurd (Heap.lt_size q) (Nat.not_lt.mpr hb)
        have hv : ∀ (i : Nat) (v : Value), its[i]? = some v → ∃ k t, ns[i]? = some k ∧ v = .int k t := fun i v e => by
          have hi : i < ns.length := hlen ▸ (Array.getElem?_eq_some_iff.mp e).1
          obtain ⟨t, q⟩ := PyProof.Rows.IntsAre.int_at hit i v (by rw [Array.getElem?_toList]; exact e)
          refine ⟨ns[i], t, List.getElem?_eq_getElem hi, ?_⟩
          rw [q, List.getD_eq_getElem?_getD, List.getElem?_eq_getElem hi]
          rfl
        refine set_update_ints ((Walks.list g3 _ l (by rw [gz]; exact Nat.ne_of_lt (Nat.lt_succ_of_lt g2)) its).toS) s.heap.objs.size (by rw [gz]; simp only [List.mem_cons, List.not_mem_nil, or_false, not_or]; exact ⟨Nat.ne_of_lt (Nat.lt_succ_self _), Nat.ne_of_gt g2⟩) ns hlen hb hv (its.size - 0) 0 _ (by omega) (Nat.zero_le _)
          ⟨⟨_, Heap.get?_push_size _ rfl, rfl, rfl⟩, (g1.push _)⟩ ?c0 ?c1
        case c0 =>
          exact ⟨0, Nat.le_refl 0, setR_new_at (Heap.get?_push_of_some _ b0)⟩
        case c1 =>
          intro s3 c3 hm le3 r3
          obtain ⟨h1, x2, x3, tk, x5⟩ := s3
          obtain rfl : x2 = s.gens := hm.gens
          obtain rfl : x3 = s.drawn := hm.drawn
          obtain rfl : x5 = s.os := hm.os
          show wpAny _ _ _ _ _ _
          refine wpAny_pure ?_
          show wpAny _ _ (ret Value.none) _ _ _
          rw [hlen] at le3
          refine wpAny_pure ⟨rfl, h1, tk, c3, rfl, r3, le3, fun b o e => ?_⟩
          have u0 : b < s.heap.objs.size := Heap.lt_size e
          have u1 : b ∉ [s.heap.objs.size, (s.heap.push { cls := .type "set", dict := none, data := .set #[] 0 (.fresh 0 0 (!w.params.followText "set-order")) }).objs.size] := by
            rw [gz]
            simp only [List.mem_cons, List.not_mem_nil, or_false, not_or]
            exact ⟨Nat.ne_of_lt u0, Nat.ne_of_lt (Nat.lt_succ_of_lt u0)⟩
          exact hm.heap b o u1 (Heap.get?_push_of_some _ (Heap.get?_push_of_some _ e))
      · cases r2 with
        | error e => exact hr2
        | ok fl2 =>
          cases fl2 with
          | ret r => 
            obtain ⟨rfl, h1, tk, c3, rfl, r3, le3, kp⟩ := hr2
            repeat (any_goals (first | assumption | wp_step))
            exact h _ _ _ r3 le3 kp
          | _ => exact hr2.elim
    | _ => exact hr.elim
end
end DL
namespace DL
open PySem PySem.Spec PyProof.Rows L2
section
variable {X : Cx}
def rSetRows (K : PySem.W.Frag) (P : Program) (w : World) : List V → Hp → VK → Prop := fun xs H Q => ∃ (l : Addr) (ks : List (Addr × List Int)), xs = [V.ref l] ∧ SqT K H l (ks.map fun p => V.ref p.1) ∧ (∀ p ∈ ks, SqT K H p.1 (p.2.map V.int)) ∧ ks.length < 64 ∧
  ∀ a L, H a = none → (∀ p ∈ L, p ∈ ks) → (∀ p ∈ ks, p.2 ∈ L.map (·.2)) → Q (.ref a) (upd H a (SetTO P w a L))
theorem cr_setRows (hc : X.calm = true) (hu : X.A.units + 64 < cLine) : CallR X (.type "set") (rSetRows X.K X.prog X.w) := by
  intro pins s σ H xs us Q I r h
  obtain ⟨l, ks, rfl, ht, hk, hf, q⟩ := h
  rw [Vals.ref1 r]
  obtain ⟨its, rv, pt, _⟩ := I.tuple ht
  have fresh : H s.heap.objs.size = none := I.hok.fresh (Nat.le_refl _)
  refine call_set_rows (P := X.prog) (w := X.w) ks (I.ok.hd hc) pt (by simpa using refs_of_vals rv) (fun p hp => I.isT (hk p hp)) hf (by omega) fun h1 tk L es ep t R g kp => ?_
  refine ⟨.ref s.heap.objs.size, upd H s.heap.objs.size (SetTO X.prog X.w s.heap.objs.size L), I.laid (t' := tk) kp (Nat.le_refl _) (setTO_new R.t0), rfl, q _ L fresh (fun p hp => List.mem_of_mem_take (g.sub p hp)) fun p hp => g.all p ?_⟩
  rwa [List.take_length]
def rSetNums (K : PySem.W.Frag) (w : World) : List V → Hp → VK → Prop := fun xs H Q => ∃ (l : Addr) (ns : List Int), xs = [.ref l] ∧ SqL K H l (ns.map V.int) ∧ ns.length < 60 ∧ ∀ p c, H p = none → c ≤ ns.length → Q (.ref p) (upd H p (SetO w p (fun j => decide (j ∈ ns)) c))
theorem cr_setNums (hc : X.calm = true) : CallR X (.type "set") (rSetNums X.K X.w) := by
  intro pins s σ H xs us Q I r h
  obtain ⟨l, ns, rfl, hs, hl, q⟩ := h
  obtain ⟨its, rv, pl, _⟩ := I.list hs
  rw [Vals.ref1 r]
  refine call_set_nums ns (I.ok.hd hc) pl.isList (by simpa using rv.ints) (Nat.lt_of_lt_of_le (show ns.length + 1 < 64 by omega) (by decide)) fun h1 tk c R le kp => ?_
  exact ⟨.ref _, upd H s.heap.objs.size (SetO X.w s.heap.objs.size (fun j => decide (j ∈ ns)) c), I.laid (t' := tk) kp (Nat.le_refl _) (setO_new R), rfl, q _ c (I.hok.fresh (Nat.le_refl _)) le⟩
/-- what sorted does with a set of pairs -/
theorem sortP_core {K : PySem.W.Frag} {P : Program} {w : World} {M : Addr → Prop} {H : Hp} {ks : List (Addr × List Int)} {ps : List (Int × Int)} {Q : VK} (hm : ∀ b, M b → Mut (H b)) (hk : ∀ k ∈ ks, ¬ M k.1 ∧ H k.1 = some (.tup (k.2.map V.int))) (he : ks.map (·.2) = ps.map fun p => [p.1, p.2]) (hl : ps.length < 60) (hb : ∀ p ∈ ps, loP p)
    (k : ∀ v H', Same H H' → Dv M H' v (.list ((setP ps).map dOf)) → Q v H') {a : Addr} {L : List (Addr × List Int)} (ha : H a = none) (hL : ∀ p ∈ L, p ∈ ks) (hA : ∀ p ∈ ks, p.2 ∈ L.map (·.2)) : rSortedT K P w [.ref a] (upd H a (SetTO P w a L)) Q := by
  have sm1 : Same H (upd H a (SetTO P w a L)) := same_upd ha
  have hrow : ∀ p ∈ L, ∃ q ∈ ps, p.2 = [q.1, q.2] := fun p hp => by
    have := List.mem_map_of_mem (f := fun p : Addr × List Int => p.2) (hL p hp)
    rw [he] at this
    obtain ⟨q, hq, e⟩ := List.mem_map.mp this
    exact ⟨q, hq, e.symm⟩
  refine ⟨a, L, 2, 64, rfl, upd_same, fun p hp => .inl (.inl (sm1 _ _ (hk p (hL p hp)).2)), by decide, fun p hp => ?_, fun L' p pm nd hf pw hp => ?_⟩
  · obtain ⟨q, hq, e⟩ := hrow p hp
    rw [e]
    obtain ⟨b1, b2, b3, b4⟩ := hb q hq
    refine ⟨rfl, fun i hi => ?_⟩
    simp only [List.mem_cons, List.not_mem_nil, or_false] at hi
    rcases hi with rfl | rfl
    · exact ⟨b1, b2⟩
    · exact ⟨b3, b4⟩
  · have sm2 := same_upd (o := .lst (L'.map fun q => V.ref q.1)) hp
    have sm3 : Same H (upd (upd H a (SetTO P w a L)) p (.lst (L'.map fun q => V.ref q.1))) := fun b o e => sm2 b o (sm1 b o e)
    have hL' : ∀ q ∈ L', q ∈ ks := fun q hq => hL q (pm.mem_iff.mp hq)
    have er : L'.map (·.2) = (setP ps).map fun p => [p.1, p.2] := rows_eq hb (fun r => by
      constructor
      · intro hr
        obtain ⟨q, hq, rfl⟩ := List.mem_map.mp hr
        rw [← he]
        exact List.mem_map_of_mem (f := fun p : Addr × List Int => p.2) (hL' q hq)
      · intro hr
        rw [← he] at hr
        obtain ⟨q, hq, rfl⟩ := List.mem_map.mp hr
        exact (pm.map (·.2)).mem_iff.mpr (hA q hq)) nd (List.pairwise_map.mpr pw)
    have hH : H p = none := by
      by_cases e : p = a
      · rw [e]; exact ha
      · rw [upd_ne e] at hp; exact hp
    refine k _ _ sm3 (.lst (fresh_mut hm hH) (.inl upd_same) ?_ (rows_dv (fun q hq => ⟨(hk q (hL' q hq)).1, sm3 _ _ (hk q (hL' q hq)).2⟩) er))
    have := setP_len ps
    rw [List.length_map]
    show (setP ps).length ≤ 1000000
    omega
def gSortSetT : PyData → Option PyData
  | .tuple ds => match pairsD ds with
    | some ps => if ps.length < 60 ∧ ∀ p ∈ ps, loP p then some (.list ((setP ps).map dOf)) else none
    | none => none
  | _ => none
theorem p_sortSetT {K : PySem.W.Frag} {P : Program} {w : World} : Pure1 (fun v H Q => rSetRows K P w [v] H fun v2 H2 => rSortedT K P w [v2] H2 Q) gSortSetT := fun M H x d z Q hm hx hg k => by
  match d, hx, hg with
  | .tuple ds, hx, hg =>
    unfold gSortSetT at hg
    simp only at hg
    cases h1 : pairsD ds with
    | none => simp [h1] at hg
    | some ps =>
      simp only [h1] at hg
      by_cases h2 : ps.length < 60 ∧ ∀ p ∈ ps, loP p
      case neg => rw [if_neg h2] at hg; cases hg
      rw [if_pos h2] at hg
      cases hg
      obtain ⟨hl, hb⟩ := h2
      obtain ⟨l, xs, rfl, _, rd, q, _⟩ := hx.tup
      rw [pairsD_eq h1] at q
      obtain ⟨ks, rfl, hk, he⟩ := pairs_v q
      have hkl : ks.length = ps.length := by
        have := congrArg List.length he
        simpa using this
      exact ⟨l, ks, rfl, .inl rd, fun p hp => .inl (.inl (hk p hp).2), by omega, fun a L ha hL hA => sortP_core hm hk he hl hb k ha hL hA⟩
def gSortSetL : PyData → Option PyData
  | .list ds => match intsD ds with
    | some ns => if ns.length < 60 then some (.list ((setD ns).map .int)) else none
    | none => none
  | _ => none
theorem p_sortSetL {K : PySem.W.Frag} {w : World} : Pure1 (fun v H Q => rSetNums K w [v] H fun v2 H2 => rSortedSet w [v2] H2 Q) gSortSetL := fun M H x d z Q hm hx hg k => by
  match d, hx, hg with
  | .list ds, hx, hg =>
    unfold gSortSetL at hg
    simp only at hg
    cases h1 : intsD ds with
    | none => simp [h1] at hg
    | some ns =>
      simp only [h1] at hg
      by_cases h2 : ns.length < 60
      case neg => rw [if_neg h2] at hg; cases hg
      rw [if_pos h2] at hg
      cases hg
      obtain ⟨t, xs, rfl, rd, q, l⟩ := hx.lst
      rw [intsD_eq h1] at q
      rw [ints_v q] at rd
      refine ⟨t, ns, rfl, .inl rd, h2, fun p c hp hc => ⟨p, _, c, rfl, upd_same, by omega, fun ms p2 h3 h4 h5 hp2 => ?_⟩⟩
      obtain rfl : ms = setD ns := sorted_one h3 (setD_pw ns) fun k => by rw [h4, setD_mem]; simp
      have sm1 : Same H (upd H p (SetO w p (fun j => decide (j ∈ ns)) c)) := same_upd hp
      have sm2 := same_upd (o := .lst ((setD ns).map V.int)) hp2
      have hH : H p2 = none := by
        by_cases hb : p2 = p
        · rw [hb]; exact hp
        · rw [upd_ne hb] at hp2; exact hp2
      refine k _ _ (fun b o e => sm2 b o (sm1 b o e)) (.lst (fresh_mut hm hH) (.inl upd_same) ?_ (dva_ints _))
      rw [List.length_map]
      have : (setD ns).length = c := h5
      show (setD ns).length ≤ 1000000
      omega
end
section
variable {X : Cx} {x : Expr} {pos : Pos} {f : X1}
def gSortSetB (d : PyData) : Option PyData := match gSortSetA d with
  | some z => some z
  | none => match gSortSetT d with
    | some z => some z
    | none => gSortSetL d
theorem d_sortSetB {p q pos2 : Pos} (hu : X.A.units + 64 < cLine) (hc : X.calm = true) (hg : Gl X "sorted") (hm : X.mg "sorted" = none) (hg2 : Gl X "set") (hm2 : X.mg "set" = none) (a : PE X x (tD f))
    (na : starEach [.Call (.Name "set" q) [x] [] pos2] X.env = (false, eval (.Call (.Name "set" q) [x] [] pos2) X.env) :: starEach [] X.env := by rfl) (nb : starEach [x] X.env = (false, eval x X.env) :: starEach [] X.env := by rfl)
    (ha : (backTo pos (starEach [] X.env)).any (·.1) = false := by rfl) (hb : (backTo pos2 (starEach [] X.env)).any (·.1) = false := by rfl) :
    PE X (.Call (.Name "sorted" p) [.Call (.Name "set" q) [x] [] pos2] [] pos) (tD (x1 gSortSetB f)) :=
  ⟨fun pins s σ H Q I h => by
    obtain ⟨P, α, e, w, r, w', R, hf, k⟩ := h
    rcases x1_or (g1 := gSortSetA) hf with z | z
    · exact (d_sortSetA hu hc hg hm hg2 hm2 a na nb ha hb).run pins s σ H Q I ⟨P, α, e, w, r, w', R, z, k⟩
    · rcases x1_or (g1 := gSortSetT) z with z | z
      · exact ((pe_callB (cr_sortedT hc) hg hm boot_sorted_ (pa_cons (pe_callTy (cr_setRows hc hu) hg2 hm2 boot_set_ (pa_cons a pa_nil nb) (by decide) (by decide) nb hb) pa_nil na) (by decide) (by decide) na ha).imp fun σ H Q q => step1 p_sortSetT q).run pins s σ H Q I ⟨P, α, e, w, r, w', R, z, k⟩
      · exact ((pe_callB (cr_sortedSet hc) hg hm boot_sorted_ (pa_cons (pe_callTy (cr_setNums hc) hg2 hm2 boot_set_ (pa_cons a pa_nil nb) (by decide) (by decide) nb hb) pa_nil na) (by decide) (by decide) na ha).imp fun σ H Q q => step1 p_sortSetL q).run pins s σ H Q I ⟨P, α, e, w, r, w', R, z, k⟩⟩
end
end DL
namespace DL
open PySem PySem.Spec PyProof.Rows L2
section
variable {X : Cx} {x : Expr} {pos : Pos} {f : X1}
/-! ### len(set(t)), t a tuple of pairs; bool(x) -/
def rLenT (K : PySem.W.Frag) (P : Program) (w : World) : List V → Hp → VK → Prop := fun vs H Q => ∃ (a : Addr) (L : List (Addr × List Int)), vs = [V.ref a] ∧ H a = some (SetTO P w a L) ∧ (∀ p ∈ L, SqT K H p.1 (p.2.map V.int)) ∧ ((L.map (·.2)).Nodup → Q (.int L.length) H)
theorem cr_lenT : CallR X (.builtin "len") (rLenT X.K X.prog X.w) := by
  intro pins s σ H vs us Q I r h
  obtain ⟨a, L, rfl, ha, hk, q⟩ := h
  have R0 : SetT0 X.prog X.w s.heap a L := (I.hok a _ ha).1
  obtain ⟨es, ep, t, R⟩ := R0.full fun p hp => I.isT (hk p hp)
  rw [Vals.ref1 r]
  obtain ⟨o, ho, hex, hd⟩ := R.ob
  have hs := R.size
  have hf := R.few
  exact call_len_set ho hex hd R.fits (by omega) ⟨.int L.length, H, I.tok _, ⟨_, by rw [hs]⟩, q R.nd⟩
def gLenSet : PyData → Option PyData
  | .tuple ds => match pairsD ds with
    | some ps => if ps.length < 60 ∧ ∀ p ∈ ps, loP p then some (.int ((setP ps).length : Int)) else none
    | none => none
  | _ => none
theorem p_lenSet {K : PySem.W.Frag} {P : Program} {w : World} : Pure1 (fun v H Q => rSetRows K P w [v] H fun v2 H2 => rLenT K P w [v2] H2 Q) gLenSet := fun M H x d z Q hm hx hg k => by
  match d, hx, hg with
  | .tuple ds, hx, hg =>
    unfold gLenSet at hg
    simp only at hg
    cases h1 : pairsD ds with
    | none => simp [h1] at hg
    | some ps =>
      simp only [h1] at hg
      by_cases h2 : ps.length < 60 ∧ ∀ p ∈ ps, loP p
      case neg => rw [if_neg h2] at hg; cases hg
      rw [if_pos h2] at hg
      cases hg
      obtain ⟨hl, hb⟩ := h2
      obtain ⟨l, xs, rfl, _, rd, q, _⟩ := hx.tup
      rw [pairsD_eq h1] at q
      obtain ⟨ks, rfl, hk, he⟩ := pairs_v q
      have hkl : ks.length = ps.length := by
        have := congrArg List.length he
        simpa using this
      refine ⟨l, ks, rfl, .inl rd, fun p hp => .inl (.inl (hk p hp).2), by omega, fun a L ha hL hA => ?_⟩
      have sm1 : Same H (upd H a (SetTO P w a L)) := same_upd ha
      refine ⟨a, L, rfl, upd_same, fun p hp => .inl (.inl (sm1 _ _ (hk p (hL p hp)).2)), fun nd => ?_⟩
      have hp : (L.map (·.2)).Perm ((setP ps).map fun p => [p.1, p.2]) := by
        refine (List.perm_ext_iff_of_nodup nd ?_).mpr fun r => ?_
        · refine List.pairwise_map.mpr ((setP_pw hb).imp fun h => ?_)
          intro e
          simp only [List.cons.injEq, and_true] at e
          unfold lexlt at h
          omega
        · constructor
          · intro hr
            obtain ⟨q, hq, rfl⟩ := List.mem_map.mp hr
            have := List.mem_map_of_mem (f := fun p : Addr × List Int => p.2) (hL q hq)
            rw [he] at this
            obtain ⟨p, hp, e⟩ := List.mem_map.mp this
            rw [← e]
            exact List.mem_map_of_mem (f := fun p : Int × Int => [p.1, p.2]) ((setP_mem hb p).mpr hp)
          · intro hr
            obtain ⟨p, hp, rfl⟩ := List.mem_map.mp hr
            have : [p.1, p.2] ∈ ps.map fun p => [p.1, p.2] := List.mem_map_of_mem (f := fun p : Int × Int => [p.1, p.2]) ((setP_mem hb p).mp hp)
            rw [← he] at this
            obtain ⟨q, hq, e⟩ := List.mem_map.mp this
            rw [← e]
            exact hA q hq
      have hlen := hp.length_eq
      rw [List.length_map, List.length_map] at hlen
      rw [hlen]
      exact k _ _ sm1 (.atm (.int _))
theorem d_lenSet {p q pos2 : Pos} (hu : X.A.units + 64 < cLine) (hc : X.calm = true) (hg : Gl X "len") (hm : X.mg "len" = none) (hg2 : Gl X "set") (hm2 : X.mg "set" = none) (a : PE X x (tD f))
    (na : starEach [.Call (.Name "set" q) [x] [] pos2] X.env = (false, eval (.Call (.Name "set" q) [x] [] pos2) X.env) :: starEach [] X.env := by rfl) (nb : starEach [x] X.env = (false, eval x X.env) :: starEach [] X.env := by rfl)
    (ha : (backTo pos (starEach [] X.env)).any (·.1) = false := by rfl) (hb : (backTo pos2 (starEach [] X.env)).any (·.1) = false := by rfl) :
    PE X (.Call (.Name "len" p) [.Call (.Name "set" q) [x] [] pos2] [] pos) (tD (x1 gLenSet f)) :=
  (pe_callB cr_lenT hg hm boot_len_ (pa_cons (pe_callTy (cr_setRows hc hu) hg2 hm2 boot_set_ (pa_cons a pa_nil nb) (by decide) (by decide) nb hb) pa_nil na) (by decide) (by decide) na ha).imp fun σ H Q q => step1 p_lenSet q
def gBool : List PyData → Option PyData
  | [.int i] => some (.bool (i != 0))
  | [.bool b] => some (.bool b)
  | _ => none
theorem p_bool : PureN (fun xs H Q => (∃ i, xs = [.int i] ∧ Q (.bl (i != 0)) H) ∨ ∃ k, xs = [.bl k] ∧ Q (.bl k) H) gBool := fun M H xs ds z Q hm hx hg k => by
  match ds, hx, hg with
  | [.int i], .cons h .nil, hg =>
    cases hg
    exact .inl ⟨i, by rw [h.int], k _ H (fun _ _ h => h) (.atm (.bl _))⟩
  | [.bool b], .cons h .nil, hg =>
    cases hg
    refine .inr ⟨b, ?_, k _ H (fun _ _ h => h) (.atm (.bl _))⟩
    rcases h with h | ⟨a, xs, ds, _, e, _⟩
    · rw [bl_of h]
    · cases e
end
end DL
namespace DL
open PySem PySem.Spec PyProof.Rows L2
/-! ### range(a, b, -1) -/
def rangeD (lo : Int) (n : Nat) : List PyData := (List.range n).map fun (i : Nat) => .int (lo - (i : Int))
theorem rangeD_len (lo : Int) (n : Nat) : (rangeD lo n).length = n := by simp [rangeD]
theorem src_rangeD {M1 : Addr → Prop} {H1 : Hp} {lo : Int} {n : Nat} : Src M1 (fun _ => False) H1 (rangeD lo n) (Itc lo (-1) n) := by
  refine ⟨fun _ => True, YFn fun i => .int (lo + (i : Nat) * (-1)), by rw [rangeD_len]; exact walk_rangeC, fun H2 q => trivial, fun i d H2 x H3 M2 hd y hm tr => ?_⟩
  obtain ⟨rfl, rfl⟩ := y
  unfold rangeD at hd
  rw [List.getElem?_map] at hd
  cases hr : (List.range n)[i]? with
  | none => simp [hr] at hd
  | some j =>
    have hj : j = i := by
      have := (List.getElem?_eq_some_iff.mp hr)
      obtain ⟨h1, h2⟩ := this
      simpa using h2.symm
    rw [hr] at hd
    cases hd
    subst hj
    have e : lo + (j : Int) * (-1) = lo - (j : Int) := by omega
    show Same H3 H3 ∧ Dv M2 H3 (.int (lo + (j : Int) * (-1))) (.int (lo - (j : Int)))
    rw [e]
    exact ⟨fun _ _ z => z, .atm (.int _)⟩
def iRange3 (f h g : X1) : I1 := fun e w => match f e w with
  | some (.v (.int a), w1) => match h e w1 with
    | some (.v (.int b), w2) => match g e w2 with
      | some (.v (.int c), w3) => if smallI a && smallI b && decide (a - b ≤ 1000000) && decide (c = -1) then some (rangeD a (a - b).toNat, w3) else none
      | _ => none
    | _ => none
  | _ => none
theorem so_range3 {f h g : X1} : SrcOf (iRng3 (tDA (aCons f (aCons h (aCons g aNil))))) (iRange3 f h g) := ⟨fun σ H R ⟨P, α, e, w, ds, w', r, hf, k⟩ => by
  unfold iRange3 at hf
  cases h1 : f e w with
  | none => simp [h1] at hf
  | some q =>
    obtain ⟨ra, w1⟩ := q
    simp only [h1] at hf
    match ra, h1, hf with
    | .v (.int a), h1, hf =>
      simp only at hf
      cases h2 : h e w1 with
      | none => simp [h2] at hf
      | some q =>
        obtain ⟨rb, w2⟩ := q
        simp only [h2] at hf
        match rb, h2, hf with
        | .v (.int b), h2, hf =>
          simp only at hf
          cases h3 : g e w2 with
          | none => simp [h3] at hf
          | some q =>
            obtain ⟨rc, w3⟩ := q
            simp only [h3] at hf
            match rc, h3, hf with
            | .v (.int c), h3, hf =>
              by_cases hn : (smallI a && smallI b && decide (a - b ≤ 1000000) && decide (c = -1)) = true
              · simp only [hn, if_true] at hf
                cases hf
                simp only [Bool.and_eq_true, decide_eq_true_eq] at hn
                obtain ⟨⟨⟨n1, n2⟩, n3⟩, rfl⟩ := hn
                refine ⟨P, α, e, w, [.v (.int a), .v (.int b), .v (.int (-1))], w', r, by unfold aCons aNil; simp [h1, h2, h3], fun vs H1 α1 u1 R1 i1 => ?_⟩
                cases i1 with
                | cons x b1 =>
                  cases b1 with
                  | cons y b2 =>
                    cases b2 with
                    | cons z b3 =>
                      cases b3 with
                      | nil =>
                        have e1 := int_of (show Dv _ _ _ (.int a) from x)
                        have e2 := int_of (show Dv _ _ _ (.int b) from y)
                        have e3 := int_of (show Dv _ _ _ (.int (-1)) from z)
                        subst e1 e2 e3
                        refine ⟨a, b, -1, (a - b).toNat, rfl, RgC.neg (small_1 n1).1 (small_1 n1).2 (small_1 n2).1 (small_1 n2).2, k _ (fun _ => False) H1 α1 u1 R1 (fun _ z => z.elim) ?_ src_rangeD⟩
                        rw [rangeD_len]
                        show (a - b).toNat ≤ 1000000
                        omega
              · simp [hn] at hf⟩
end DL
namespace DL
open PySem PySem.Spec PyProof.Rows L2
/-! ### tuple(dict(l)), l a list of pairs (mode, True): the unlike modes, each at its first place -/
section
variable {prog : Program} {w : World} {A : Around} {E : Value → Shared → Prop} {s : Shared} {d : Addr} {es : Array DictEntry} {ep : Nat}
abbrev KeyAtI (es : Array DictEntry) (i : Nat) (v : Value) : Prop := ∃ hi : i < es.size, v = es[i].key
theorem gather_dict {Q : List Value → Shared → Prop} (lo : (d == sysModules) = false) (hh : A.handled = none) (hm : s.heap.DictRaw d es ep) (hz : es.size ≤ sizeLine)
    (hQ : ∀ (h' : Heap) (tk : Nat) (acc : Array Value), (∀ b o, s.heap.get? b = some o → h'.get? b = some o) → ItemsOf (KeyAtI es) acc es.size → Q acc.toList { s with heap := h', toks := tk }) :
    wpAny (model prog w) A (collect (.ref d)) Q E s := by
  unfold collect
  refine wpAny_bind (wpAny_runValue (codeAny_builtin F.entry_proto_collect ?_))
  rw [Around.under_plainId F.plain_proto_collect _]
  show wpAny _ A.in1 (newList [] >>= fun l => again (.builtin "list.__iadd__" ⟨[l, .ref d], []⟩)) _ _ s
  refine wpAny_bind (wpAny_newObj_type ?_)
  refine wpAny_pure ⟨plainId_quiet F.plain_list_iadd _, codeAny_builtin F.entry_list_iadd ?_⟩
  rw [Around.under_plainId F.plain_list_iadd _]
  show wpAny _ A.in1 (Builtin.List.listExtendWith (.ref s.heap.objs.size) (.ref d) (.ref s.heap.objs.size)) _ _ _
  have new : (s.heap.push { cls := .type "list", data := .seq ([] : List Value).toArray }).get? s.heap.objs.size = some { cls := .type "list", data := .seq #[] 0 } := Heap.get?_push_size _ rfl
  have dlt : d < s.heap.objs.size := hm.lt_size
  refine wpAny_mono (PySem.W.kdl_extend (A := A) (PySem.KdlSrc.rawDict (prog := prog) (w := w) (es := es) (ep := ep) lo) (R := fun rr s' => rr = .ok (.ret (.ref s.heap.objs.size)) ∧ ∃ (h' : Heap) (tk : Nat) (acc : Array Value) (c' : Nat), s' = { s with heap := h', toks := tk } ∧
      (∀ b o, s.heap.get? b = some o → h'.get? b = some o) ∧ h'.get? s.heap.objs.size = some { cls := .type "list", dict := none, data := .seq acc c', slots := #[] } ∧ ItemsOf (KeyAtI es) acc es.size)
    (s := { s with heap := s.heap.push { cls := .type "list", data := .seq ([] : List Value).toArray } }) hh (hm.push _) s.heap.objs.size (Nat.ne_of_gt dlt) (Nat.ne_of_gt dlt) _ 0 new
    (fun h' tk acc c' hk e hi => ⟨rfl, h', tk, acc, c', rfl, fun b o q => hk b o (Nat.ne_of_lt (Heap.lt_size q)) (Heap.get?_push_of_some _ q), e, hi⟩) hz) (fun fin s' h => ?_) (fun e s' h => ?_)
  · cases fin with
    | done f =>
      obtain ⟨e, h', tk, acc, c', rfl, hk, got, hi⟩ := h
      cases e
      show wpAny _ A (load s.heap.objs.size >>= _) _ _ _
      exact wpAny_bind (wpAny_load got (wpAny_pure (hQ h' tk acc hk hi)))
    | again c' =>
      refine ⟨h.1, codeAny_mono h.2 fun rr s'' hr' => ?_⟩
      obtain ⟨rfl, h', tk, acc, c', rfl, hk, got, hi⟩ := hr'
      show wpAny _ A (load s.heap.objs.size >>= _) _ _ _
      exact wpAny_bind (wpAny_load got (wpAny_pure (hQ h' tk acc hk hi)))
  · exact absurd h.1 (by simp)
theorem newTuple_dict {Q₁ : Value → Shared → Prop} (lo : (d == sysModules) = false) (hh : A.handled = none) (hm : s.heap.DictRaw d es ep) (hz : es.size ≤ sizeLine)
    (h : ∀ (h' : Heap) (tk : Nat) (acc : Array Value), (∀ b o, s.heap.get? b = some o → h'.get? b = some o) → ItemsOf (KeyAtI es) acc es.size →
      Q₁ (.ref h'.objs.size) { s with heap := h'.push { cls := .type "tuple", data := .seq acc }, toks := tk }) :
    codeAny (model prog w) A (.call (.builtin "tuple.__new__") ⟨[.type "tuple", .ref d], []⟩) (wants Q₁ E) s := by
  refine codeAny_of_tree ?_
  show wpAny _ A.in1 (do checkBuiltinCall "tuple.__new__" ⟨[.type "tuple", .ref d], []⟩; again (.builtin "tuple.__new__" ⟨[.type "tuple", .ref d], []⟩)) _ _ s
  refine wpAny_bind (wpAny_of_eq (F.newCall_tuple_1 _) (wpAny_pure ⟨plainId_quiet F.plain_tuple_new _, codeAny_builtin F.entry_tuple_new ?_⟩))
  rw [Around.under_plainId F.plain_tuple_new _]
  have a1 := sub_tuple_self
  have a2 := init_tuple_lookup
  have a3 := madeHere_tuple
  have ty : s.TypeIs (.ref d) "dict" := hm.typeIs
  have hh1 : A.in1.handled = none := hh
  wp_walk using wpAny_typeOf ty, gather_dict (A := A.in1) lo hh1 hm hz
  intro h' tk acc hk hacc
  show wpAny _ _ (Builtin.Tuple.tupleExact acc.toList.toArray >>= fun v => ret v) _ _ _
  unfold Builtin.Tuple.tupleExact
  refine wpAny_bind (wpAny_newObj_type ?_ (by show acc.toList.toArray.size ≤ sizeLine; simp only [Array.toArray_toList]; rw [hacc.1]; exact hz))
  refine wpAny_pure ?_
  have e : acc.toList.toArray = acc := by simp
  rw [e]
  exact h h' tk acc hk hacc
theorem call_tuple_dict {Q : Value → Shared → Prop} (lo : (d == sysModules) = false) (hh : A.handled = none) (hm : s.heap.DictRaw d es ep) (hz : es.size ≤ sizeLine)
    (hQ : ∀ (h' : Heap) (tk : Nat) (acc : Array Value), (∀ b o, s.heap.get? b = some o → h'.get? b = some o) → ItemsOf (KeyAtI es) acc es.size →
      Q (.ref h'.objs.size) { s with heap := h'.push { cls := .type "tuple", data := .seq acc }, toks := tk }) :
    wpAny (model prog w) A (call (.type "tuple") [.ref d]) Q E s := by
  refine callType_codes (Q₁ := fun obj s₁ => s₁.TypeIs obj "tuple" ∧ Q obj s₁) F.called_tuple (F.typeCall_tuple_1 _) F.entry_object_init
    (newTuple_dict (A := A.in1) lo hh hm hz fun h' tk acc hk hacc => ⟨⟨_, Heap.get?_push_size _ rfl, rfl⟩, hQ h' tk acc hk hacc⟩) fun obj s₁ h₁ => ?_
  exact ⟨h₁.1, F.args_object_init_2 obj _, object_init_meets F.called_tuple.init.lookup F.called_tuple.made (by decide) prog w A.in1 _ s₁ ⟨h₁.1, rfl, h₁.2⟩⟩
end
/-- a dict of which the keys are known by their places -/
def DictBs (a : Addr) (bs : List Addr) : HO := .ext fun h => (a == sysModules) = false ∧ ∃ es ep, h.DictRaw a es ep ∧ es.size = bs.length ∧ ∀ i (hi : i < es.size), ∃ b, bs[i]? = some b ∧ es[i].key = .ref b
def rTupD : List V → Hp → VK → Prop := fun vs H Q => ∃ (a : Addr) (bs : List Addr), vs = [V.ref a] ∧ H a = some (DictBs a bs) ∧ bs.length ≤ 1000 ∧ ∀ p, H p = none → Q (.ref p) (upd H p (.tup (bs.map V.ref)))
section
variable {X : Cx}
theorem vals_refs : ∀ {bs : List Addr} {us : List Value}, us = bs.map Value.ref → Vals (bs.map V.ref) us
  | [], _, rfl => .nil
  | b :: bs, _, rfl => .cons rfl (vals_refs rfl)
theorem cr_tupD (hc : X.calm = true) : CallR X (.type "tuple") rTupD := by
  intro pins s σ H vs us Q I r h
  obtain ⟨a, bs, rfl, ha, hl, q⟩ := h
  obtain ⟨lo, es, ep, R, hs, hk⟩ := (I.hok a _ ha).1
  rw [Vals.ref1 r]
  have hz : es.size ≤ sizeLine := by rw [hs, sizeLine_eq]; omega
  refine call_tuple_dict lo (I.ok.hd hc) R hz fun h' tk acc hk' hacc => ?_
  have I1 : Inv X pins σ H { s with heap := h', toks := tk } := I.kept (t' := tk) hk'
  have e : acc.toList = bs.map Value.ref := by
    apply List.ext_getElem?
    intro i
    rw [Array.getElem?_toList, List.getElem?_map]
    by_cases hi : i < es.size
    · obtain ⟨b, hb, hkey⟩ := hk i hi
      rw [hb]
      have hai : i < acc.size := by rw [hacc.1]; exact hi
      obtain ⟨_, e2⟩ := hacc.2 i acc[i] (Array.getElem?_eq_getElem hai)
      rw [Array.getElem?_eq_getElem hai, e2, hkey]
      rfl
    · rw [Array.getElem?_eq_none (by rw [hacc.1]; omega), List.getElem?_eq_none (by omega)]
      rfl
  have I2 : Inv X pins σ (upd H h'.objs.size (.tup (bs.map V.ref))) { s with heap := h'.push { cls := .type "tuple", data := .seq acc }, toks := tk } := by
    refine I1.laid (t' := tk) (fun b o e => Heap.get?_push_of_some _ e) (Nat.le_refl _) (show ObjOk X.prog X.w _ _ _ (.tup (bs.map V.ref)) from ⟨?_, bs.map Value.ref, vals_refs rfl, ?_⟩)
    · rw [List.length_map, sizeLine_eq]
      omega
    · have := IsTup.new h' acc
      rw [← e]
      simpa using this
  exact ⟨.ref h'.objs.size, _, I2, rfl, q _ (I1.hok.fresh (Nat.le_refl _))⟩
end
mutual
/-- data as keys: whole numbers, and tuples of such -/
def nkD : PyData → Option NestedKey
  | .int i => some (.num i)
  | .tuple ds => match nkA ds with
    | some ks => some (.tup ks)
    | none => none
  | _ => none
def nkA : List PyData → Option (List NestedKey)
  | [] => some []
  | d :: ds => match nkD d with
    | some k => match nkA ds with
      | some ks => some (k :: ks)
      | none => none
    | none => none
end
section
variable {X : Cx} {pins : List (Addr × Obj)} {σ : L2.St} {H : Hp} {s : Shared} {M : Addr → Prop}
mutual
theorem dv_key (I : Inv X pins σ H s) : ∀ (d : PyData) (k : NestedKey) (v : V) (u : Value), nkD d = some k → Dv M H v d → RelV v u → NestedIs s.heap k u
  | .int i, k, v, u, hk, h, r => by
    simp only [nkD, Option.some.injEq] at hk
    subst hk
    obtain rfl := int_of h
    obtain ⟨t, rfl⟩ := r
    exact .int i t
  | .tuple ds, k, v, u, hk, h, r => by
    simp only [nkD] at hk
    cases hks : nkA ds with
    | none => simp [hks] at hk
    | some ks =>
      simp only [hks, Option.some.injEq] at hk
      subst hk
      cases h with
      | atm q => cases q
      | @tup l xs _ nm rd0 lm q =>
        have rd : Rd _ l (.tup xs) := .inl rd0
        obtain rfl : u = .ref l := r
        obtain ⟨its, rv, ⟨o, ho, hc, n, hd⟩, _⟩ := I.tuple (.inl rd)
        exact .tup ho hc hd (by simpa using dv_keys I ds ks xs its hks q rv)
  | .none, _, _, _, hk, _, _ => by simp [nkD] at hk
  | .bool _, _, _, _, hk, _, _ => by simp [nkD] at hk
  | .str _, _, _, _, hk, _, _ => by simp [nkD] at hk
  | .list _, _, _, _, hk, _, _ => by simp [nkD] at hk
  | .dict _, _, _, _, hk, _, _ => by simp [nkD] at hk
theorem dv_keys (I : Inv X pins σ H s) : ∀ (ds : List PyData) (ks : List NestedKey) (xs : List V) (us : List Value), nkA ds = some ks → DvA M H xs ds → Vals xs us → NestedAll s.heap ks us
  | [], ks, xs, us, hk, h, r => by
    simp only [nkA, Option.some.injEq] at hk
    subst hk
    cases h
    cases r
    exact .nil
  | d :: ds, ks, xs, us, hk, h, r => by
    simp only [nkA] at hk
    cases h1 : nkD d with
    | none => simp [h1] at hk
    | some k =>
      cases h2 : nkA ds with
      | none => simp [h1, h2] at hk
      | some ks' =>
        simp only [h1, h2, Option.some.injEq] at hk
        subst hk
        cases h with
        | cons a b =>
          cases r with
          | cons x y => exact .cons (dv_key I d k _ _ h1 a x) (dv_keys I ds ks' _ _ h2 b y)
end
end
/-- the unlike ones, each at its first place -/
def ded {α : Type} (f : α → NestedKey) : List α → List α → List α
  | acc, [] => acc
  | acc, x :: r => if acc.any (fun y => decide (f y = f x)) then ded f acc r else ded f (acc ++ [x]) r
theorem ded_map {α β : Type} (g : α → β) (f : α → NestedKey) (f' : β → NestedKey) (h : ∀ x, f' (g x) = f x) : ∀ (L acc : List α), (ded f acc L).map g = ded f' (acc.map g) (L.map g)
  | [], _ => rfl
  | x :: r, acc => by
    have e : (acc.map g).any (fun y => decide (f' y = f' (g x))) = acc.any (fun y => decide (f y = f x)) := by
      rw [List.any_map]
      congr 1
      funext y
      simp only [Function.comp_apply, h]
    simp only [ded, List.map_cons, e]
    cases acc.any (fun y => decide (f y = f x)) with
    | true => simp only [if_true]; exact ded_map g f f' h r acc
    | false =>
      simp only [Bool.false_eq_true, if_false]
      rw [ded_map g f f' h r (acc ++ [x]), List.map_append]
      rfl
theorem ded_len {α : Type} (f : α → NestedKey) : ∀ (L acc : List α), (ded f acc L).length ≤ acc.length + L.length
  | [], _ => Nat.le_refl _
  | x :: r, acc => by
    unfold ded
    split
    · have := ded_len f r acc
      rw [List.length_cons]
      omega
    · have := ded_len f r (acc ++ [x])
      rw [List.length_append, List.length_singleton] at this
      rw [List.length_cons]
      omega
theorem ded_mem {α : Type} (f : α → NestedKey) : ∀ (L acc : List α) (x : α), x ∈ ded f acc L → x ∈ acc ∨ x ∈ L
  | [], _, _, h => .inl h
  | y :: r, acc, x, h => by
    unfold ded at h
    split at h
    · rcases ded_mem f r acc x h with h | h
      · exact .inl h
      · exact .inr (List.mem_cons_of_mem _ h)
    · rcases ded_mem f r _ x h with h | h
      · rcases List.mem_append.mp h with h | h
        · exact .inl h
        · rw [List.mem_singleton.mp h]
          exact .inr (List.mem_cons_self ..)
      · exact .inr (List.mem_cons_of_mem _ h)
theorem ded_pos {α : Type} (f : α → NestedKey) : ∀ (L acc : List α), acc ≠ [] ∨ L ≠ [] → ded f acc L ≠ []
  | [], acc, h => by
    rcases h with h | h
    · exact h
    · exact absurd rfl h
  | x :: r, acc, _ => by
    unfold ded
    split
    · rename_i q
      refine ded_pos f r acc (.inl fun e => ?_)
      rw [e] at q
      simp at q
    · exact ded_pos f r _ (.inl (by simp))
theorem stored_ded {α : Type} (f : α → NestedKey) (b : α → Addr) (v : Value) : ∀ (L acc : List α), storedAllH (acc.map fun x => (f x, b x, v)) (L.map fun x => (f x, b x, v)) = (ded f acc L).map fun x => (f x, b x, v)
  | [], _ => rfl
  | x :: r, acc => by
    have h1 : (atKey (acc.map fun x => (f x, b x, v)) (f x)).isSome = acc.any (fun y => decide (f y = f x)) := by
      unfold atKey
      rw [Option.isSome_map, Bool.eq_iff_iff, List.find?_isSome, List.any_eq_true]
      constructor
      · rintro ⟨z, hz, e⟩
        obtain ⟨y, hy, rfl⟩ := List.mem_map.mp hz
        exact ⟨y, hy, e⟩
      · rintro ⟨y, hy, e⟩
        exact ⟨_, List.mem_map_of_mem hy, e⟩
    show storedAllH (storedH (acc.map fun x => (f x, b x, v)) (f x) (b x) v) (r.map fun x => (f x, b x, v)) = _
    unfold storedH ded
    rw [h1]
    cases acc.any (fun y => decide (f y = f x)) with
    | true =>
      simp only [if_true]
      have h2 : (acc.map fun x => (f x, b x, v)).map (putAt (f x) v) = acc.map fun x => (f x, b x, v) := by
        rw [List.map_map]
        apply List.map_congr_left
        intro y _
        simp only [Function.comp_apply, putAt]
        split <;> rfl
      rw [h2]
      exact stored_ded f b v r acc
    | false =>
      simp only [Bool.false_eq_true, if_false]
      have := stored_ded f b v r (acc ++ [x])
      rw [List.map_append] at this
      exact this
theorem refs_v : ∀ {bs : List Addr} {us : List Value}, Vals (bs.map V.ref) us → us = bs.map Value.ref
  | [], _, h => by cases h; rfl
  | b :: bs, _, h => by
    cases h with
    | cons a r =>
      have := refs_v r
      subst this
      obtain rfl := a
      rfl
def rDict1 (K : PySem.W.Frag) : List V → Hp → VK → Prop := fun vs H Q => ∃ (l : Addr) (Z : List (Addr × Addr × NestedKey)), vs = [V.ref l] ∧ SqL K H l (Z.map fun z => V.ref z.1) ∧ (∀ z ∈ Z, SqT K H z.1 [.ref z.2.1, .bl true] ∧ z.2.2.depth ≤ 8 ∧ ∃ (M : Addr → Prop) (d : PyData), Dv M H (.ref z.2.1) d ∧ nkD d = some z.2.2) ∧ Z.length ≤ 1000 ∧
  ∀ a, H a = none → Q (.ref a) (upd H a (DictBs a ((ded (fun z => z.2.2) [] Z).map fun z => z.2.1)))
theorem cr_dict1 {X : Cx} (hc : X.calm = true) (hu : X.A.units + 64 < cLine) : CallR X (.type "dict") (rDict1 X.K) := by
  intro pins s σ H vs us Q I r h
  obtain ⟨l, Z, rfl, hl, hz, hn, q⟩ := h
  rw [Vals.ref1 r]
  obtain ⟨its, rv, pl, _⟩ := I.list hl
  have ei : its = Z.map fun z => Value.ref z.1 := by
    have := refs_v (bs := Z.map fun z => z.1) (us := its) (by rw [List.map_map]; exact rv)
    rw [this, List.map_map]
    rfl
  subst ei
  have hat : ∀ z ∈ Z, PairAt s.heap z.1 (.ref z.2.1) (.bool true) := fun z hzm => by
    obtain ⟨its, rv, pt, _⟩ := I.tuple (hz z hzm).1
    cases rv with
    | cons a b =>
      cases b with
      | cons c e =>
        cases e
        cases a
        cases c
        exact .inl (by obtain ⟨o, ho, hc, n, hd⟩ := pt; exact ⟨o, ho, hc, n, hd⟩)
  have P := PairArg.list (prog := X.prog) (w := X.w) l (Z.map fun z => Value.ref z.1).toArray (fun i => (Z.getD i (0, 0, .none)).1) (Z.map fun z => (Value.ref z.2.1, Value.bool true))
  have hlen : (Z.map fun z => (Value.ref z.2.1, Value.bool true)).length = Z.length := List.length_map ..
  refine call_dict_pairsH (knd := nestedKind X.prog X.w) (ps := Z.map fun z => (z.2.2, z.2.1, Value.bool true)) P (I.ok.hd hc) (by show X.A.units + 1 + 1 + 8 < cLine; omega) ⟨pl, ?_, fun j k v hj => ?_⟩ ⟨by rw [List.length_map, hlen], fun i key v hi => ?_⟩ (fun h' hk x hx => ?_) (by rw [hlen, sizeLine_eq]; omega) fun h' tk hd hk => ?_
  · rw [hlen]
    simp
  · rw [List.getElem?_map] at hj
    cases hzj : Z[j]? with
    | none => rw [hzj] at hj; cases hj
    | some z =>
      rw [hzj] at hj
      cases hj
      have e : Z.getD j (0, 0, .none) = z := by rw [List.getD_eq_getElem?_getD, hzj]; rfl
      simp only [e]
      exact ⟨by simp [hzj], hat z (List.mem_of_getElem? hzj)⟩
  · rw [PairRel, List.getElem?_map] at hi
    cases hzj : Z[i]? with
    | none => rw [hzj] at hi; cases hi
    | some z =>
      rw [hzj] at hi
      cases hi
      exact ⟨z.2.2, z.2.1, by rw [List.getElem?_map, hzj]; rfl, rfl⟩
  · obtain ⟨z, hzm, rfl⟩ := List.mem_map.mp hx
    have I1 : Inv X pins σ H { s with heap := h' } := I.kept (t' := s.toks) fun b o e => hk b o (Nat.ne_of_lt (Heap.lt_size e)) (by simp) e
    obtain ⟨_, hdep, M, d, hdv, hnk⟩ := hz z hzm
    exact ⟨dv_key I1 d _ _ _ hnk hdv rfl, hdep⟩
  · have hst := stored_ded (fun z : Addr × Addr × NestedKey => z.2.2) (fun z => z.2.1) (Value.bool true) Z []
    simp only [List.map_nil] at hst
    rw [hst] at hd
    obtain ⟨es, ep, hr, hs, he⟩ := hd.raw
    refine ⟨.ref s.heap.objs.size, upd H s.heap.objs.size (DictBs s.heap.objs.size ((ded (fun z => z.2.2) [] Z).map fun z => z.2.1)), I.laid (t' := tk) (fun b o e => hk b o (by simp) e) (Nat.le_refl _) ?_, rfl, q _ (I.hok.fresh (Nat.le_refl _))⟩
    have lo : (s.heap.objs.size == sysModules) = false := beq_eq_false_iff_ne.mpr (Nat.ne_of_gt I.big)
    obtain ⟨o, ho, hx⟩ := hr
    refine ⟨⟨lo, es, ep, ⟨o, ho, hx⟩, by rw [hs, List.length_map, List.length_map], fun i hi => ?_⟩, ⟨o, ho⟩, fun h1 h2 p k => ?_⟩
    · obtain ⟨y, hy, e1, _, _⟩ := he i hi
      rw [List.getElem?_map] at hy
      cases hz2 : (ded (fun z : Addr × Addr × NestedKey => z.2.2) [] Z)[i]? with
      | none => rw [hz2] at hy; cases hy
      | some z =>
        rw [hz2] at hy
        cases hy
        exact ⟨z.2.1, by rw [List.getElem?_map, hz2]; rfl, e1⟩
    · obtain ⟨lo', es', ep', R', r'⟩ := p
      exact ⟨lo', es', ep', R'.at k, r'⟩
def keysD : List PyData → Option (List (PyData × NestedKey))
  | [] => some []
  | .tuple [.tuple d, .bool true] :: r => match nkD (.tuple d) with
    | some k => if k.depth ≤ 8 then match keysD r with
        | some L => some ((.tuple d, k) :: L)
        | none => none
      else none
    | none => none
  | _ :: _ => none
def gDictKeys : PyData → Option PyData
  | .list ds => match keysD ds with
    | some L => if L.length ≤ 1000 then some (.tuple ((ded (fun z => z.2) [] L).map fun z => z.1)) else none
    | none => none
  | _ => none
theorem keys_v {M : Addr → Prop} {H : Hp} : ∀ {ds : List PyData} {xs : List V} {L : List (PyData × NestedKey)}, keysD ds = some L → DvA M H xs ds →
    ∃ Z : List (Addr × Addr × PyData × NestedKey), xs = Z.map (fun z => V.ref z.1) ∧ L = Z.map (fun z => (z.2.2.1, z.2.2.2)) ∧ ∀ z ∈ Z, Rd H z.1 (.tup [.ref z.2.1, .bl true]) ∧ z.2.2.2.depth ≤ 8 ∧ Dv M H (.ref z.2.1) z.2.2.1 ∧ nkD z.2.2.1 = some z.2.2.2
  | [], _, _, hk, h => by
    simp only [keysD, Option.some.injEq] at hk
    subst hk
    cases h
    exact ⟨[], rfl, rfl, by simp⟩
  | d :: r, _, _, hk, h => by
    unfold keysD at hk
    split at hk
    · rename_i q
      cases q
    · rename_i ds r' q
      simp only [List.cons.injEq] at q
      obtain ⟨rfl, rfl⟩ := q
      cases h1 : nkD (.tuple ds) with
      | none => simp [h1] at hk
      | some k =>
        simp only [h1] at hk
        by_cases h2 : k.depth ≤ 8
        case neg => simp [h2] at hk
        simp only [h2, if_true] at hk
        cases h3 : keysD r with
        | none => simp [h3] at hk
        | some L =>
          simp only [h3, Option.some.injEq] at hk
          subst hk
          cases h with
          | cons a b =>
            obtain ⟨Z, rfl, rfl, hz⟩ := keys_v h3 b
            cases (show Dv _ _ _ (.tuple [.tuple ds, .bool true]) from a) with
            | atm q => cases q
            | @tup T ys _ nm rd0 lm q =>
              have rd : Rd _ T (.tup ys) := .inl rd0
              cases q with
              | cons c e =>
                cases e with
                | cons f g =>
                  cases g
                  cases f with
                  | atm q =>
                    cases q
                    have c0 := c
                    cases (show Dv _ _ _ (.tuple ds) from c) with
                    | atm q => cases q
                    | @tup bb zs _ _ _ _ _ =>
                      refine ⟨(T, bb, .tuple ds, k) :: Z, rfl, rfl, fun z hzm => ?_⟩
                      rcases List.mem_cons.mp hzm with rfl | hzm
                      · exact ⟨rd, h2, c0, h1⟩
                      · exact hz z hzm
    · cases hk
theorem p_dictKeys {K : PySem.W.Frag} : Pure1 (fun v H Q => rDict1 K [v] H fun v2 H2 => rTupD [v2] H2 Q) gDictKeys := fun M H x d z Q hm hx hg k => by
  match d, hx, hg with
  | .list ds, hx, hg =>
    unfold gDictKeys at hg
    simp only at hg
    cases h1 : keysD ds with
    | none => simp [h1] at hg
    | some L =>
      simp only [h1] at hg
      by_cases h2 : L.length ≤ 1000
      case neg => rw [if_neg h2] at hg; cases hg
      rw [if_pos h2] at hg
      cases hg
      obtain ⟨l, xs, rfl, rd, q, _⟩ := hx.lst
      obtain ⟨Z, rfl, rfl, hz⟩ := keys_v h1 q
      rw [List.length_map] at h2
      have e1 : (ded (fun z : Addr × Addr × NestedKey => z.2.2) [] (Z.map fun z => (z.1, z.2.1, z.2.2.2))).map (fun z => z.2.1) = (ded (fun z : Addr × Addr × PyData × NestedKey => z.2.2.2) [] Z).map fun z => z.2.1 := by
        have := ded_map (fun z : Addr × Addr × PyData × NestedKey => (z.1, z.2.1, z.2.2.2)) (fun z => z.2.2.2) (fun z => z.2.2) (fun _ => rfl) Z []
        rw [List.map_nil] at this
        rw [← this, List.map_map]
        rfl
      have e2 : (ded (fun z : PyData × NestedKey => z.2) [] (Z.map fun z => (z.2.2.1, z.2.2.2))).map (fun z => z.1) = (ded (fun z : Addr × Addr × PyData × NestedKey => z.2.2.2) [] Z).map fun z => z.2.2.1 := by
        have := ded_map (fun z : Addr × Addr × PyData × NestedKey => (z.2.2.1, z.2.2.2)) (fun z => z.2.2.2) (fun z => z.2) (fun _ => rfl) Z []
        rw [List.map_nil] at this
        rw [← this, List.map_map]
        rfl
      have hlen := ded_len (fun z : Addr × Addr × PyData × NestedKey => z.2.2.2) Z []
      have hmem := ded_mem (fun z : Addr × Addr × PyData × NestedKey => z.2.2.2) Z []
      refine ⟨l, Z.map fun z => (z.1, z.2.1, z.2.2.2), rfl, ?_, fun z hzm => ?_, by rw [List.length_map]; exact h2, fun a ha => ?_⟩
      · rw [List.map_map]
        exact .inl rd
      · obtain ⟨z', hz', rfl⟩ := List.mem_map.mp hzm
        obtain ⟨a1, a2, a3, a4⟩ := hz z' hz'
        exact ⟨.inl a1, a2, M, _, a3, a4⟩
      · rw [e1]
        rw [e2] at k
        generalize ded (fun z : Addr × Addr × PyData × NestedKey => z.2.2.2) [] Z = D at hlen hmem k ⊢
        refine ⟨a, D.map fun z => z.2.1, rfl, upd_same, by rw [List.length_map]; simp at hlen; omega, fun p hp => ?_⟩
        have sm1 : Same H (upd H a (DictBs a (D.map fun z => z.2.1))) := same_upd ha
        have sm2 := same_upd (o := .tup ((D.map fun z => z.2.1).map V.ref)) hp
        have sm3 : Same H _ := fun b o e => sm2 b o (sm1 b o e)
        have hH : H p = none := by
          by_cases hb : p = a
          · rw [hb]; exact ha
          · rw [upd_ne hb] at hp; exact hp
        refine k _ _ sm3 (.tup (fresh_mut hm hH) upd_same ?_ ?_)
        · simp at hlen
          simp only [List.length_map]
          show D.length ≤ 1000000
          omega
        · have hD : ∀ z ∈ D, Dv M H (.ref z.2.1) z.2.2.1 := fun z hzD => by
            rcases hmem z hzD with h | h
            · cases h
            · exact (hz z h).2.2.1
          generalize upd (upd H a (DictBs a (D.map fun z => z.2.1))) p (.tup ((D.map fun z => z.2.1).map V.ref)) = H2 at sm3
          clear sm2 sm1 hlen hmem hp hH k
          induction D with
          | nil => exact .nil
          | cons z D ih => exact .cons ((hD z (List.mem_cons_self ..)).same sm3) (ih fun z hz => hD z (List.mem_cons_of_mem _ hz))
section
variable {X : Cx} {x : Expr} {pos : Pos} {f : X1}
theorem boot_dict_ : bootBuiltins "dict" = some (.type "dict") := by decide +kernel
theorem d_dictKeys {p q pos2 : Pos} (hu : X.A.units + 64 < cLine) (hc : X.calm = true) (hg : Gl X "tuple") (hm : X.mg "tuple" = none) (hg2 : Gl X "dict") (hm2 : X.mg "dict" = none) (a : PE X x (tD f))
    (na : starEach [.Call (.Name "dict" q) [x] [] pos2] X.env = (false, eval (.Call (.Name "dict" q) [x] [] pos2) X.env) :: starEach [] X.env := by rfl) (nb : starEach [x] X.env = (false, eval x X.env) :: starEach [] X.env := by rfl)
    (ha : (backTo pos (starEach [] X.env)).any (·.1) = false := by rfl) (hb : (backTo pos2 (starEach [] X.env)).any (·.1) = false := by rfl) :
    PE X (.Call (.Name "tuple" p) [.Call (.Name "dict" q) [x] [] pos2] [] pos) (tD (x1 gDictKeys f)) :=
  (pe_callTy (cr_tupD hc) hg hm boot_tuple_ (pa_cons (pe_callTy (cr_dict1 hc hu) hg2 hm2 boot_dict_ (pa_cons a pa_nil nb) (by decide) (by decide) nb hb) pa_nil na) (by decide) (by decide) na ha).imp fun σ H Q q => step1 p_dictKeys q
end
section
variable {X : Cx}
theorem sset_asg {i : Nat} {f : X1} {D : Ends} {σ : L2.St} {H : Hp} (q : tS (sSet i f) D σ H) : tD f σ H fun x H1 => gName i x σ H1 D.nx := by
  obtain ⟨P, α, e, w, o, R, hf, k⟩ := q
  unfold sSet at hf
  split at hf
  · rename_i d w1 h1
    cases hf
    exact ⟨P, α, e, w, _, _, R, h1, fun v H1 α1 u1 R1 i1 => k _ H1 α1 (UpS.put (nv d) u1) (R1.put (nv d) i1)⟩
  · rename_i m w1 h1
    cases hf
    exact ⟨P, α, e, w, _, _, R, h1, fun v H1 α1 u1 R1 i1 => k _ H1 α1 (UpS.put (fun ds q => nomatch q) u1) (R1.put (x := .obj m) (fun ds q => nomatch q) i1)⟩
  · cases hf
/-- name = [..] on one line, the name used by no comprehension -/
theorem ds_setLc {i : Nat} {y : Str} {py : Pos} {elt tg iter : Expr} {ifs : List Expr} {scope : Scope} {own : List (Str × Nat)} {pos spos : Pos} {wi : TI} {it : I1} {gt : TG} {g : G1} {t : T1} {x : X1} {vs' : List Nat} (hy : X.N[i]? = some y) (hc : X.calm = true) (hN : X.N.Nodup) (hi : PI X tg iter wi) (so : SrcOw wi it) (ok : BlkOk X.N X.env.scope scope own)
    (hg : ∀ (s : Shared) (H : Hp) (C : Addr) (cl : List (Str × Addr)) (fp : List Addr), PG (X.blk s H scope (compEnvC scope cl C X.env) fp) tg gt) (gd : GD gt g vs') (hvs : ∀ i ∈ vs', i ∈ own.map (·.2))
    (ht : ∀ (s : Shared) (H : Hp) (C : Addr) (cl : List (Str × Addr)) (fp : List Addr), PTs (X.blk s H scope (compEnvC scope cl C X.env) fp) ifs (tDT t))
    (he : ∀ (s : Shared) (H : Hp) (C : Addr) (cl : List (Str × Addr)) (fp : List Addr), PE (X.blk s H scope (compEnvC scope cl C X.env) fp) elt (tD x))
    (hyl : X.env.scope.names.lookup y = some .local) (hsw : swapsWith (.ListComp elt [⟨tg, iter, ifs, 0⟩] scope pos) (some (.Name y py)) spos.line X.env = pure true) (hs : ∀ x, foldedSetIterable iter X.env x = pure x := by intro _; rfl) :
    PS X (.Assign [.Name y py] (.ListComp elt [⟨tg, iter, ifs, 0⟩] scope pos) spos) (tS (sSet i (xLc (own.map (·.2)) it g t x))) :=
  (ps_setLc hc hN hy hyl hsw hi ok hg ht he hs).imp fun D σ H q => lc_step so gd hvs (tF_D isl_lc.at' (sset_asg q))
end
end DL
namespace DL
open PySem PySem.Spec PyProof.Rows L2
/-! ### list(range(n)) -/
section
variable {X : Cx} {x : Expr} {pos : Pos} {f : X1}
def gLstRg : PyData → Option PyData
  | .int n => if smallI n then some (.list (rangeL 0 n.toNat)) else none
  | _ => none
theorem p_lstRg : Pure1 (fun v H Q => ∃ n : Int, v = .int n ∧ RgOk 0 n ∧ ∀ q, H q = none → Q (.ref q) (upd H q (.lst (rgV 0 n)))) gLstRg := fun M H x d z Q hm hx hg k => by
  match d, hx, hg with
  | .int n, hx, hg =>
    by_cases h : smallI n = true
    · simp only [gLstRg, h, if_true] at hg
      cases hg
      have h' := h
      unfold smallI at h'
      simp only [Bool.and_eq_true, decide_eq_true_eq] at h'
      refine ⟨n, hx.int, ⟨by decide, by decide, by omega, by omega, by omega⟩, fun q hq => k _ _ (same_upd hq) (.lst (fresh_mut hm hq) (.inl upd_same) ?_ ((rg_dv n).same (same_upd hq)))⟩
      rw [rangeL_len]
      show n.toNat ≤ 1000000
      omega
    · simp [gLstRg, h] at hg
theorem d_lstRg {p p3 pos2 : Pos} (hc : X.calm = true) (hg : Gl X "list") (hm : X.mg "list" = none) (hg2 : Gl X "range") (hm2 : X.mg "range" = none) (a : PE X x (tD f))
    (na : starEach [.Call (.Name "range" p3) [x] [] pos2] X.env = (false, eval (.Call (.Name "range" p3) [x] [] pos2) X.env) :: starEach [] X.env := by rfl) (nb : starEach [x] X.env = (false, eval x X.env) :: starEach [] X.env := by rfl) :
    PE X (.Call (.Name "list" p) [.Call (.Name "range" p3) [x] [] pos2] [] pos) (tD (x1 gLstRg f)) :=
  (pe_listRg hc hg hm (prg_1 hg2 hm2 a nb) na).imp fun σ H Q q => step1 p_lstRg q
end
section
variable {X : Cx} {x y : Expr} {pos : Pos} {f h : X1} {t : T1}
/-! [..] if c else [..] as a new list -/
theorem f_if {c : Expr} (a : PT X c (tDT t)) (b : PE X x (tF f)) (d : PE X y (tF h)) : PE X (.IfExp c x y pos) (tF (xIf t f h)) := (pe_ifExp a b d).imp fun σ H Q q => by
  obtain ⟨P, α, e, w, ds, w', R, hf, k⟩ := q
  unfold xIf at hf
  cases h1 : t e w with
  | none => simp [h1] at hf
  | some p =>
    obtain ⟨c, w1⟩ := p
    refine ⟨P, α, e, w, c, w1, R, h1, fun H1 α1 u1 R1 => ?_⟩
    simp only [h1] at hf
    cases c with
    | true =>
      rw [if_pos rfl]
      exact ⟨P, α1, e, w1, ds, w', R1, hf, fun p xs H2 α2 u2 hp R2 hx dv l => k p xs H2 α2 (u1.trans u2) (u1.ex p hp) R2 hx dv l⟩
    | false =>
      rw [if_neg Bool.false_ne_true]
      exact ⟨P, α1, e, w1, ds, w', R1, hf, fun p xs H2 α2 u2 hp R2 hx dv l => k p xs H2 α2 (u1.trans u2) (u1.ex p hp) R2 hx dv l⟩
theorem isl_if (h1 : IsLst f) (h2 : IsLst h) : IsLst (xIf t f h) := ⟨fun e w r w' q => by
  unfold xIf at q
  cases ht : t e w with
  | none => simp [ht] at q
  | some p =>
    obtain ⟨c, w1⟩ := p
    simp only [ht] at q
    cases c with
    | true => exact h1.at' e w1 r w' q
    | false => exact h2.at' e w1 r w' q⟩
end
section
variable {X : Cx} {x : Expr} {pos : Pos} {fs : A1}
/-! list(x) as a new list -/
theorem tF_list {K : PySem.W.Frag} {σ : L2.St} {H : Hp} {Q : VK} (q : tF (xN gList fs) σ H Q) : (tDA fs) σ H fun xs H1 => ∃ p ys, xs = [V.ref p] ∧ (SqL K H1 p ys ∨ SqT K H1 p ys) ∧ ∀ l, H1 l = none → Q (.ref l) (upd H1 l (.lst ys)) := by
  obtain ⟨P, α, e, w, ds, w', R, hf, k⟩ := q
  unfold xN at hf
  cases h1 : fs e w with
  | none => simp [h1] at hf
  | some p =>
    obtain ⟨rs, w1⟩ := p
    simp only [h1] at hf
    cases h2 : valsOf e w1 rs with
    | none => simp [h2] at hf
    | some es =>
      simp only [h2] at hf
      cases h3 : gList es with
      | none => simp [h3] at hf
      | some z =>
        simp only [h3, Option.map_some] at hf
        cases hf
        refine ⟨P, α, e, w, rs, _, R, h1, fun vs H1 α1 u1 R1 i1 => ?_⟩
        have hv := vals_of R1 i1 h2
        have fin : ∀ (a : Addr) (ys : List V), DvA (Msk P α1 e σ) H1 ys ds → ds.length ≤ LIM → ∀ l, H1 l = none → Q (.ref l) (upd H1 l (.lst ys)) := fun a ys dv l1 p hp => by
          have sm : Same H1 (upd H1 p (.lst ys)) := same_upd hp
          refine k p ys _ α1 (u1.trans (.of_same sm)) (u1.ex p hp) (R1.guard hp trivial) upd_same (dv.up (fun b o q _ => sm b o q) fun b m => ?_) l1
          rcases m with (m | m) | m
          · exact .inl (.inl m)
          · exact .inr (by rw [m]; exact hp)
          · exact .inl (.inr m)
        match es, hv, h3 with
        | [.list es], hv, h3 =>
          cases h3
          obtain ⟨v, rfl, dv⟩ := one hv
          obtain ⟨a, ys, rfl, rd, q, l⟩ := dv.lst
          exact ⟨a, ys, rfl, .inl (.inl rd), fin a ys q l⟩
        | [.tuple es], hv, h3 =>
          cases h3
          obtain ⟨v, rfl, dv⟩ := one hv
          obtain ⟨a, ys, rfl, n, rd, q, l⟩ := dv.tup
          exact ⟨a, ys, rfl, .inr (.inl rd), fin a ys q l⟩
theorem f_listOf {p : Pos} (hg : Gl X "list") (hm : X.mg "list" = none) (ha : PA X [x] (tDA fs)) (he : starEach [x] X.env = (false, eval x X.env) :: starEach [] X.env := by rfl) (hpl : (backTo pos (starEach [] X.env)).any (·.1) = false := by rfl) :
    PE X (.Call (.Name "list" p) [x] [] pos) (tF (xN gList fs)) := (pe_callTy call_list_of hg hm boot_list_ ha (by decide) (by decide) he hpl).imp fun _ _ _ q => tF_list q
theorem isl_listOf : IsLst (xN gList fs) := ⟨fun e w r w' q => by
  unfold xN at q
  cases h1 : fs e w with
  | none => simp [h1] at q
  | some p =>
    obtain ⟨rs, w1⟩ := p
    simp only [h1] at q
    cases h2 : valsOf e w1 rs with
    | none => simp [h2] at q
    | some es =>
      simp only [h2] at q
      match es, q with
      | [.list es], q => cases q; exact ⟨_, rfl⟩
      | [.tuple es], q => cases q; exact ⟨_, rfl⟩⟩
end
section
variable {X : Cx}
theorem ds_setLc2 {i : Nat} {y : Str} {py spos : Pos} {elt tg iter tg1 iter1 : Expr} {ifs ifs1 : List Expr} {scope : Scope} {own : List (Str × Nat)} {vs1 : List Nat} {pos : Pos} {wi wi1 : TI} {it it1 : I1} {gt gt1 : TG} {g g1 : G1} {t t1 : T1} {x : X1} {vs' vs1' : List Nat} (hy : X.N[i]? = some y) (hc : X.calm = true) (hN : X.N.Nodup) (hi : PI X tg iter wi) (so : SrcOw wi it) (ok : BlkOk X.N X.env.scope scope own)
    (hv : ∀ i ∈ vs1, i ∈ own.map (·.2))
    (hg : ∀ (s : Shared) (H : Hp) (C : Addr) (cl : List (Str × Addr)) (fp : List Addr), PG (X.blk s H scope (compEnvC scope cl C X.env) fp) tg gt) (gd : GD gt g vs') (hvs : ∀ i ∈ vs', i ∈ own.map (·.2))
    (ht : ∀ (s : Shared) (H : Hp) (C : Addr) (cl : List (Str × Addr)) (fp : List Addr), PTs (X.blk s H scope (compEnvC scope cl C X.env) fp) ifs (tDT t))
    (hi1 : ∀ (s : Shared) (H : Hp) (C : Addr) (cl : List (Str × Addr)) (fp : List Addr), PI (X.blk s H scope (compEnvC scope cl C X.env) fp) tg1 iter1 wi1) (so1 : SrcOf wi1 it1)
    (hg1 : ∀ (s : Shared) (H : Hp) (C : Addr) (cl : List (Str × Addr)) (fp : List Addr), PG (X.blk s H scope (compEnvC scope cl C X.env) fp) tg1 gt1) (gd1 : GD gt1 g1 vs1') (hvs1 : ∀ i ∈ vs1', i ∈ vs1)
    (ht1 : ∀ (s : Shared) (H : Hp) (C : Addr) (cl : List (Str × Addr)) (fp : List Addr), PTs (X.blk s H scope (compEnvC scope cl C X.env) fp) ifs1 (tDT t1))
    (he : ∀ (s : Shared) (H : Hp) (C : Addr) (cl : List (Str × Addr)) (fp : List Addr), PE (X.blk s H scope (compEnvC scope cl C X.env) fp) elt (tD x))
    (hyl : X.env.scope.names.lookup y = some .local) (hsw : swapsWith (.ListComp elt [⟨tg, iter, ifs, 0⟩, ⟨tg1, iter1, ifs1, 0⟩] scope pos) (some (.Name y py)) spos.line X.env = pure true) (hs : ∀ x, foldedSetIterable iter X.env x = pure x := by intro _; rfl) (hs1 : ∀ env x, foldedSetIterable iter1 env x = pure x := by intro _ _; rfl) :
    PS X (.Assign [.Name y py] (.ListComp elt [⟨tg, iter, ifs, 0⟩, ⟨tg1, iter1, ifs1, 0⟩] scope pos) spos) (tS (sSet i (xLc2 (own.map (·.2)) vs1 it g t it1 g1 t1 x))) :=
  (ps_setLc2 hc hN hy hyl hsw hi ok hv hg ht hi1 hg1 ht1 he hs hs1).imp fun D σ H q => lc2_step so gd hvs so1 gd1 hvs1 (tF_D isl_lc2.at' (sset_asg q))
end
end DL
namespace DL
open PySem PySem.Spec PyProof.Rows L2
section
variable {X : Cx} {x y : Expr} {pos : Pos} {f h : X1}
/-! a list or a tuple as a test -/
def truD : PyData → Option Bool
  | .bool b => some b
  | .list ds => some (!ds.isEmpty)
  | .tuple ds => some (!ds.isEmpty)
  | _ => none
def tTru (f : X1) : T1 := fun e w => match f e w with
  | some (r, w1) => match valOf e w1 r with
    | some d => match truD d with
      | some b => some (b, w1)
      | none => none
    | none => none
  | none => none
theorem dva_empty {M : Addr → Prop} {H : Hp} {xs : List V} {ds : List PyData} (h : DvA M H xs ds) : ds.isEmpty = xs.isEmpty := by
  cases h <;> rfl
theorem tru_v {K : PySem.W.Frag} {M : Addr → Prop} {H : Hp} {v : V} {d : PyData} {b : Bool} (h : Dv0 M H v d) (q : truD d = some b) : TruV K v H b := by
  match d, h, q with
  | .bool c, h, q =>
    cases q
    rw [h.bl]
    exact rfl
  | .list ds, h, q =>
    cases q
    obtain ⟨a, ys, rfl, rd, dv, _⟩ := h.lst
    exact .inl ⟨ys, .inl rd, by rw [dva_empty dv]⟩
  | .tuple ds, h, q =>
    cases q
    obtain ⟨a, ys, rfl, _, rd, dv, _⟩ := h.tup
    exact .inr (.inl ⟨ys, .inl rd, by rw [dva_empty dv]⟩)
theorem dt_tru (a : PE X x (tD f)) (he : ∀ whole, isTrue x X.env whole = (do let v ← whole; standAt x.pos; holding [v] (truthy v)) := by intro _; rfl) : PT X x (tDT (tTru f)) := (pt_truth a he).imp fun σ H Q q => by
  obtain ⟨P, α, e, w, r, w', R, hf, k⟩ := q
  unfold tTru at hf
  cases h1 : f e w with
  | none => simp [h1] at hf
  | some p =>
    obtain ⟨r1, w1⟩ := p
    simp only [h1] at hf
    cases h2 : valOf e w1 r1 with
    | none => simp [h2] at hf
    | some d =>
      simp only [h2] at hf
      cases h3 : truD d with
      | none => simp [h3] at hf
      | some b =>
        simp only [h3] at hf
        cases hf
        refine ⟨P, α, e, w, r1, _, R, h1, fun v H1 α1 u1 R1 i1 => ⟨r, tru_v (IsR.val R1 i1 h2) h3, k H1 α1 u1 R1⟩⟩
/-! is not True -/
theorem op_ntTrue : OpR X (compareOp .IsNot) (fun x y H Q => ∃ a b, x = .bl a ∧ y = .bl b ∧ Q (.bl (!(a == b))) H) := by
  intro pins s σ H x y v u Q I rx ry h
  obtain ⟨a, b, rfl, rfl, q⟩ := h
  cases rx
  cases ry
  show wpAny _ _ ((isSame (Value.bool a) (Value.bool b)) >>= fun z => pure (Value.bool (!z))) _ _ s
  refine wpAny_bind (wpAny_isSame_plain rfl (wpAny_pure (fin_bl I q ?_)))
  cases a <;> cases b <;> rfl
def gNotBl (d e : PyData) : Option PyData := match d, e with
  | .bool a, .bool b => some (.bool (!(a == b)))
  | _, _ => none
theorem p_notBl : Pure2 (fun x y H Q => ∃ a b, x = V.bl a ∧ y = V.bl b ∧ Q (.bl (!(a == b))) H) gNotBl := fun M H x y d e z Q hm hx hy hg k => by
  match d, e, hx, hy, hg with
  | .bool a, .bool b, hx, hy, hg =>
    cases hg
    exact ⟨a, b, hx.bl, hy.bl, k _ H (fun _ _ h => h) (.atm (.bl _))⟩
end
end DL
/-! ### going forward through a def's meaning -/
namespace DL
open PySem PySem.Spec PyProof.Rows L2
/-- s ends, and so as Q wants it -/
def SQ (s : S1) (e : DE) (w : Wd) (Q : Out → Prop) : Prop := ∃ o, s e w = some o ∧ Q o
def thenQ (u : S1) (Q : Out → Prop) : Out → Prop
  | .nx e w => SQ u e w Q
  | o => Q o
def loopQ (I : DE → Wd → Prop) (Q : Out → Prop) : Out → Prop
  | .nx e w => I e w
  | .ct e w => I e w
  | .bk e w => Q (.nx e w)
  | .rt r w => Q (.rt r w)
section
variable {s u : S1} {f : X1} {t : T1} {fs : A1} {it : I1} {g : G1} {e e1 : DE} {w w1 : Wd} {Q Q' : Out → Prop} {d : PyData} {ds : List PyData} {i j : Nat}
theorem SQ.imp (h : SQ s e w Q) (k : ∀ o, Q o → Q' o) : SQ s e w Q' := let ⟨o, h1, h2⟩ := h; ⟨o, h1, k o h2⟩
theorem sq_at {o : Out} (h : s e w = some o) (k : Q o) : SQ s e w Q := ⟨o, h, k⟩
theorem sq_seq (h : SQ s e w (thenQ u Q)) : SQ (sSeq s u) e w Q := by
  obtain ⟨o, h1, h2⟩ := h
  cases o with
  | nx e1 w1 => obtain ⟨o2, h3, h4⟩ := h2; exact ⟨o2, by unfold sSeq; rw [h1]; exact h3, h4⟩
  | bk e1 w1 => exact ⟨_, by unfold sSeq; rw [h1], h2⟩
  | ct e1 w1 => exact ⟨_, by unfold sSeq; rw [h1], h2⟩
  | rt r w1 => exact ⟨_, by unfold sSeq; rw [h1], h2⟩
theorem sq_nx (h : s e w = some (.nx e1 w1)) (k : SQ u e1 w1 Q) : SQ (sSeq s u) e w Q := sq_seq ⟨_, h, k⟩
theorem sq_skip (k : Q (.nx e w)) : SQ sNx e w Q := ⟨_, rfl, k⟩
theorem sq_set1 (h : f e w = some (.v d, w1)) (k : Q (.nx (e.set i (some (.v d))) w1)) : SQ (sSet i f) e w Q := ⟨_, sSet_ev h, k⟩
theorem sq_set (h : f e w = some (.v d, w1)) (k : SQ u (e.set i (some (.v d))) w1 Q) : SQ (sSeq (sSet i f) u) e w Q := sq_nx (sSet_ev h) k
theorem sq_setO {n : Nat} (h : f e w = some (.obj n, w1)) (k : SQ u (e.set i (some (.obj n))) w1 Q) : SQ (sSeq (sSet i f) u) e w Q := sq_nx (by simp only [sSet, h]) k
theorem sq_own1 (h : f e w = some (.v (.list ds), w1)) (k : Q (.nx (e.set i (some (.own ds))) w1)) : SQ (sOwn i f) e w Q := ⟨_, by simp only [sOwn, h], k⟩
theorem sq_own (h : f e w = some (.v (.list ds), w1)) (k : SQ u (e.set i (some (.own ds))) w1 Q) : SQ (sSeq (sOwn i f) u) e w Q := sq_nx (by simp only [sOwn, h]) k
theorem sq_par {d' : PyData} (h : fs e w = some ([.v d, .v d'], w1)) (k : SQ u ((e.set i (some (.v d))).set j (some (.v d'))) w1 Q) : SQ (sSeq (sPar i j fs) u) e w Q := sq_nx (by simp only [sPar, h]) k
theorem sq_parO {h2 : X1} {w2 : Wd} (h : f e w = some (.v d, w1)) (h' : h2 e w1 = some (.v (.list ds), w2)) (k : SQ u ((e.set i (some (.v d))).set j (some (.own ds))) w2 Q) : SQ (sSeq (sParO i j f h2) u) e w Q := sq_nx (by simp only [sParO, h, h']) k
theorem sq_pat {e2 : DE} (h : f e w = some (.v d, w1)) (hg : g d e = some e2) (k : SQ u e2 w1 Q) : SQ (sSeq (sPat g f) u) e w Q := sq_nx (by simp only [sPat, h, hg]) k
theorem sq_ret (h : f e w = some (.v d, w1)) (k : Q (.rt (.val d) w1)) : SQ (sRet f) e w Q := ⟨_, sRet_ev h, k⟩
theorem sq_retN (k : Q (.rt (.val .none) w)) : SQ sRetN e w Q := ⟨_, rfl, k⟩
theorem sq_if {b : Bool} (h : t e w = some (b, w1)) (kt : b = true → SQ s e w1 Q) (kf : b = false → SQ u e w1 Q) : SQ (sIf t s u) e w Q := by
  cases b with
  | true => obtain ⟨o, h1, h2⟩ := kt rfl; exact ⟨o, by simp only [sIf, h, h1], h2⟩
  | false => obtain ⟨o, h1, h2⟩ := kf rfl; exact ⟨o, by simp only [sIf, h, h1], h2⟩
/-- if t: s, and then u -/
theorem sq_guard {b : Bool} (h : t e w = some (b, w1)) (kt : b = true → SQ s e w1 Q) (kf : b = false → SQ u e w1 Q) (ends : b = true → ∀ e2 w2, s e w1 ≠ some (.nx e2 w2)) : SQ (sSeq (sIf t s sNx) u) e w Q := by
  refine sq_seq (sq_if h (fun hb => ?_) fun hb => sq_skip (kf hb))
  obtain ⟨o, h1, h2⟩ := kt hb
  refine ⟨o, h1, ?_⟩
  cases o with
  | nx e2 w2 => exact absurd h1 (ends hb e2 w2)
  | bk e1 w1 => exact h2
  | ct e1 w1 => exact h2
  | rt r w1 => exact h2
/-- a guard that does not hold -/
theorem sq_not {b : Bool} (h : t e w = some (b, w1)) (hb : b = false) (k : SQ u e w1 Q) : SQ (sSeq (sIf t s sNx) u) e w Q := by
  subst hb
  exact sq_nx (by simp only [sIf, h, sNx]) k
theorem sq_drop {r : RS} (h : f e w = some (r, w1)) (k : SQ u e w1 Q) : SQ (sSeq (sDrop f) u) e w Q := sq_nx (by simp only [sDrop, h]) k
theorem sq_for (I : List PyData → DE → Wd → Prop) (hi : it e w = some (ds, w1)) (h0 : I ds e w1) (st : ∀ d r e w, I (d :: r) e w → ∃ e1, g d e = some e1 ∧ SQ s e1 w (loopQ (I r) Q)) (k : ∀ e w, I [] e w → Q (.nx e w)) : SQ (sFor it g s) e w Q := by
  have go : ∀ (ds : List PyData) (e : DE) (w : Wd), I ds e w → ∃ o, forGo g s ds e w = some o ∧ Q o := by
    intro ds
    induction ds with
    | nil => exact fun e w h => ⟨_, rfl, k e w h⟩
    | cons d r ih =>
      intro e w h
      obtain ⟨e1, h1, o, h2, h3⟩ := st d r e w h
      cases o with
      | nx e2 w2 => obtain ⟨o, q1, q2⟩ := ih e2 w2 h3; exact ⟨o, by unfold forGo; simp only [h1, h2]; exact q1, q2⟩
      | ct e2 w2 => obtain ⟨o, q1, q2⟩ := ih e2 w2 h3; exact ⟨o, by unfold forGo; simp only [h1, h2]; exact q1, q2⟩
      | bk e2 w2 => exact ⟨_, by unfold forGo; simp only [h1, h2], h3⟩
      | rt r w2 => exact ⟨_, by unfold forGo; simp only [h1, h2], h3⟩
  obtain ⟨o, q1, q2⟩ := go ds e w1 h0
  exact ⟨o, by unfold sFor; rw [hi]; exact q1, q2⟩
/-- the same where the loop stands ahead of u -/
theorem sq_forS (I : List PyData → DE → Wd → Prop) (hi : it e w = some (ds, w1)) (h0 : I ds e w1) (st : ∀ d r e w, I (d :: r) e w → ∃ e1, g d e = some e1 ∧ SQ s e1 w (loopQ (I r) (thenQ u Q))) (k : ∀ e w, I [] e w → SQ u e w Q) : SQ (sSeq (sFor it g s) u) e w Q := sq_seq (sq_for I hi h0 st k)
/-- over items that are told by a list of one's own: L, as enc tells them -/
theorem sq_forL {α : Type} (enc : α → PyData) (L : List α) (I : List α → DE → Wd → Prop) (hi : it e w = some (L.map enc, w1)) (h0 : I L e w1) (st : ∀ a r e w, I (a :: r) e w → ∃ e1, g (enc a) e = some e1 ∧ SQ s e1 w (loopQ (I r) Q)) (k : ∀ e w, I [] e w → Q (.nx e w)) : SQ (sFor it g s) e w Q :=
  sq_for (fun ds e w => ∃ r, ds = r.map enc ∧ I r e w) hi ⟨L, rfl, h0⟩ (fun d r e w ⟨l, h1, h2⟩ => by
    cases l with
    | nil => cases h1
    | cons a l =>
      rw [List.map_cons] at h1
      cases h1
      obtain ⟨e1, q1, q2⟩ := st a l e w h2
      refine ⟨e1, q1, q2.imp fun o h => ?_⟩
      cases o with
      | nx e2 w2 => exact ⟨l, rfl, h⟩
      | ct e2 w2 => exact ⟨l, rfl, h⟩
      | bk e2 w2 => exact h
      | rt r w2 => exact h) fun e w ⟨l, h1, h2⟩ => by
    cases l with
    | nil => exact k e w h2
    | cons a l => cases h1
theorem sq_forLS {α : Type} (enc : α → PyData) (L : List α) (I : List α → DE → Wd → Prop) (hi : it e w = some (L.map enc, w1)) (h0 : I L e w1) (st : ∀ a r e w, I (a :: r) e w → ∃ e1, g (enc a) e = some e1 ∧ SQ s e1 w (loopQ (I r) (thenQ u Q))) (k : ∀ e w, I [] e w → SQ u e w Q) : SQ (sSeq (sFor it g s) u) e w Q := sq_seq (sq_forL enc L I hi h0 st k)
/-- over range(n): the turn k, so many left -/
theorem sq_forN (lo : Int) (n : Nat) (I : Int → Nat → DE → Wd → Prop) (hi : it e w = some (rangeL lo n, w1)) (h0 : I lo n e w1) (st : ∀ (k : Int) (m : Nat) (e : DE) (w : Wd), lo ≤ k → k + (m : Int) + 1 = lo + n → I k (m + 1) e w → ∃ e1, g (.int k) e = some e1 ∧ SQ s e1 w (loopQ (I (k + 1) m) Q)) (k : ∀ e w, I (lo + n) 0 e w → Q (.nx e w)) : SQ (sFor it g s) e w Q :=
  sq_for (fun ds e w => ∃ (k : Int) (m : Nat), ds = rangeL k m ∧ lo ≤ k ∧ k + (m : Int) = lo + n ∧ I k m e w) hi ⟨lo, n, rfl, Int.le_refl _, rfl, h0⟩ (fun d r e w ⟨k, m, h1, h2, h3, h4⟩ => by
    cases m with
    | zero => cases h1
    | succ m =>
      rw [rangeL_succ] at h1
      cases h1
      obtain ⟨e1, q1, q2⟩ := st k m e w h2 (by omega) h4
      refine ⟨e1, q1, q2.imp fun o h => ?_⟩
      cases o with
      | nx e2 w2 => exact ⟨k + 1, m, rfl, by omega, by omega, h⟩
      | ct e2 w2 => exact ⟨k + 1, m, rfl, by omega, by omega, h⟩
      | bk e2 w2 => exact h
      | rt r w2 => exact h) fun e w ⟨j, m, h1, h2, h3, h4⟩ => by
    cases m with
    | zero => exact k e w (by rw [← h3]; simpa using h4)
    | succ m => rw [rangeL_succ] at h1; cases h1
theorem sq_forNS (lo : Int) (n : Nat) (I : Int → Nat → DE → Wd → Prop) (hi : it e w = some (rangeL lo n, w1)) (h0 : I lo n e w1) (st : ∀ (k : Int) (m : Nat) (e : DE) (w : Wd), lo ≤ k → k + (m : Int) + 1 = lo + n → I k (m + 1) e w → ∃ e1, g (.int k) e = some e1 ∧ SQ s e1 w (loopQ (I (k + 1) m) (thenQ u Q))) (k : ∀ e w, I (lo + n) 0 e w → SQ u e w Q) : SQ (sSeq (sFor it g s) u) e w Q := sq_seq (sq_forN lo n I hi h0 st k)
/-- what a def of data alone gives -/
theorem fnP_q {n : Nat} {body : S1} (h : SQ body (startE n (ds.map .val)) [] fun o => (∃ w, o = .rt (.val d) w) ∨ (d = .none ∧ ∃ e w, o = .nx e w)) : fnP n body ds = some d := by
  obtain ⟨o, h1, h2⟩ := h
  unfold fnP
  rw [h1]
  rcases h2 with ⟨w, rfl⟩ | ⟨rfl, e, w, rfl⟩ <;> rfl
def endQ (R : FA → Wd → Prop) : Out → Prop
  | .rt r w => R r w
  | .nx _ w => R (.val .none) w
  | _ => False
theorem fnD_q {n : Nat} {body : S1} {as : List FA} {R : FA → Wd → Prop} (h : SQ body (startE n as) w (endQ R)) : ∃ r w', fnD n body as w = some (r, w') ∧ R r w' := by
  obtain ⟨o, h1, h2⟩ := h
  unfold fnD
  cases o with
  | rt r w1 => exact ⟨r, w1, by rw [h1], h2⟩
  | nx e1 w1 => exact ⟨_, w1, by rw [h1], h2⟩
  | bk e1 w1 => exact h2.elim
  | ct e1 w1 => exact h2.elim
/-- the same with data as the answer -/
theorem fnD_v {n : Nat} {body : S1} {as : List FA} {R : PyData → Wd → Prop} (h : SQ body (startE n as) w (endQ fun r w => ∃ d, r = .val d ∧ R d w)) : ∃ d w', fnD n body as w = some (.val d, w') ∧ R d w' := by
  obtain ⟨r, w', h1, d, rfl, h2⟩ := fnD_q h
  exact ⟨d, w', h1, h2⟩
/-- a comprehension over L, nothing shared changed -/
theorem lc_map {α : Type} {vs : List Nat} {x : X1} (enc : α → PyData) (L : List α) (b : α → Bool) (y : α → PyData) (ho : okW e vs = true) (hi : it e w = some (L.map enc, w1))
    (h : ∀ a ∈ L, ∃ E, g (enc a) (wipeE e vs) = some E ∧ t E w1 = some (b a, w1) ∧ (b a = true → x E w1 = some (.v (y a), w1))) : xLc vs it g t x e w = some (.v (.list ((L.filter b).map y)), w1) := by
  have go : ∀ L : List α, (∀ a ∈ L, ∃ E, g (enc a) (wipeE e vs) = some E ∧ t E w1 = some (b a, w1) ∧ (b a = true → x E w1 = some (.v (y a), w1))) → lcGo g t x (wipeE e vs) (L.map enc) w1 = some ((L.filter b).map y, w1) := by
    intro L
    induction L with
    | nil => exact fun _ => rfl
    | cons a r ih =>
      intro h
      obtain ⟨E, h1, h2, h3⟩ := h a (List.mem_cons_self ..)
      have ih := ih fun a ha => h a (List.mem_cons_of_mem _ ha)
      rw [List.map_cons]
      unfold lcGo
      rw [h1]
      simp only [h2]
      cases q : b a with
      | false => simp only [ih, List.filter_cons, q, Bool.false_eq_true, if_false]
      | true => simp only [h3 q, ih, List.filter_cons, q, if_true, List.map_cons]
  simp only [xLc, ho, hi, go L h, if_true]
/-- .. without a test -/
theorem lc_all {α : Type} {vs : List Nat} {x : X1} (enc : α → PyData) (L : List α) (y : α → PyData) (ho : okW e vs = true) (hi : it e w = some (L.map enc, w1))
    (h : ∀ a ∈ L, ∃ E, g (enc a) (wipeE e vs) = some E ∧ x E w1 = some (.v (y a), w1)) : xLc vs it g tTrue x e w = some (.v (.list (L.map y)), w1) := by
  have := lc_map (x := x) (t := tTrue) (b := fun _ => true) (y := y) enc L ho hi fun a ha => by
    obtain ⟨E, h1, h2⟩ := h a ha
    exact ⟨E, h1, rfl, fun _ => h2⟩
  rwa [List.filter_eq_self.mpr (fun _ _ => rfl)] at this
/-- a comprehension whose turns change shared things -/
theorem lc_inv {α : Type} {vs : List Nat} {x : X1} (enc : α → PyData) (L : List α) (I : List α → List PyData → Wd → Prop) (ho : okW e vs = true) (hi : it e w = some (L.map enc, w1)) (h0 : I L [] w1)
    (st : ∀ a r acc w, I (a :: r) acc w → ∃ e1, g (enc a) (wipeE e vs) = some e1 ∧ ∃ b w1, t e1 w = some (b, w1) ∧ (b = false → I r acc w1) ∧ (b = true → ∃ d' w2, x e1 w1 = some (.v d', w2) ∧ I r (acc ++ [d']) w2)) :
    ∃ r w', xLc vs it g t x e w = some (.v (.list r), w') ∧ I [] r w' := by
  obtain ⟨r, w', h1, l, h2, h3⟩ := xLc_inv (x := x) (t := t) (fun ds acc w => ∃ l, ds = l.map enc ∧ I l acc w) ho hi ⟨L, rfl, h0⟩ (fun d r acc w ⟨l, q1, q2⟩ => by
    cases l with
    | nil => cases q1
    | cons a l =>
      rw [List.map_cons] at q1
      cases q1
      obtain ⟨e1, k1, b, w1, k2, k3, k4⟩ := st a l acc w q2
      exact ⟨e1, k1, b, w1, k2, fun hb => ⟨l, rfl, k3 hb⟩, fun hb => by
        obtain ⟨d', w2, m1, m2⟩ := k4 hb
        exact ⟨d', w2, m1, l, rfl, m2⟩⟩)
  cases l with
  | nil => exact ⟨r, w', h1, h3⟩
  | cons a l => cases h2
theorem rangeL_map (lo : Int) (n : Nat) : rangeL lo n = ((List.range n).map fun (i : Nat) => lo + (i : Int)).map .int := by
  rw [List.map_map]
  rfl
end
end DL
/-! ### a list times a number; + and * as new lists; calls beside further shared things; lists as shared things, pop -/
namespace DL
open PySem PySem.Spec PyProof.Rows L2
section
variable {X : Cx}
/-! list * int -/
def rManyL : R2 := fun x y H Q => ∃ a n xs, x = .ref a ∧ y = .int n ∧ Rd H a (.lst xs) ∧ 0 ≤ n ∧ n < 2 ^ 62 ∧ n.toNat * xs.length ≤ sizeLine ∧ ∀ p, H p = none → Q (.ref p) (upd H p (.lst (List.replicate n.toNat xs).flatten))
theorem op_manyL : OpR X (binaryOp .Mult) rManyL := by
  intro pins s σ H x y v u Q I rx ry q
  obtain ⟨a, n, xs, rfl, rfl, hr, n0, n1, hz, kk⟩ := q
  cases rx
  obtain ⟨tk, rfl⟩ := ry
  obtain ⟨z, us, m, rv, ha⟩ := hr.ok I.hok
  have hl := rv.length
  have z1 : us.toArray.size * n.toNat ≤ sizeLine := by rw [List.size_toArray, ← hl, Nat.mul_comm]; exact hz
  have z2 : ¬ us.toArray.size * n.toNat > (2 ^ 63 - 1) / 8 := by
    have big : sizeLine ≤ (2 ^ 63 - 1) / 8 := by decide
    omega
  have z3 : ¬ (!Builtin.List.listFitsIndex n) = true := by rw [fitsIndex_both (by omega) (by omega)]; simp
  have z4 : ¬ Builtin.List.listTooLong (us.toArray.size * n.toNat) = true := by rw [notLongL z1]; simp
  have fl : ∀ j : Nat, List.foldl (fun x1 x2 => x1 ++ x2) #[] (List.replicate j us.toArray) = (List.replicate j us).flatten.toArray := fun j => by simpa using foldl_rep us j []
  have nw : List.foldl (fun x1 x2 => x1 ++ x2) #[] (List.replicate (if us.toArray.isEmpty = true then 0 else n.toNat) us.toArray) = (List.replicate n.toNat us).flatten.toArray := by
    rw [fl]
    cases us with
    | nil => simp
    | cons => rfl
  have ty : s.TypeIs (.ref a) "list" := ⟨_, ha, rfl⟩
  refine wpAny_binaryOp_repeat_ref (T := "list") (U := "int") (by decide) ty (fun s' => typeIs_int s' n tk) noFill_list_mul F.fills_int_mul F.slot_int_rmul repeat_list F.slot_int_index.lookup (call_meets F.slot_int_rmul (typeIs_int s n tk) F.entry_int_rmul (F.args_int_rmul_2 _ _)
    (int___rmul___int_list n tk a us.toArray m) ⟨ha, rfl, ty, call_meets F.slot_list_mul ty F.entry_list_mul (F.args_list_mul_2 _ _) (AutoListH.list___mul___list_int_3 a us.toArray m n tk z3 z2 z4) ⟨ha, ?_⟩⟩)
  rw [nw]
  exact ⟨.ref _, _, I.lnew (t' := s.toks) (rv.rep n.toNat) (by rw [PyProof.Rows.lm_len_rep_flat]; exact hz), rfl, kk _ I.fresh⟩
def rMulC (K : PySem.W.Frag) : R2 := fun x y H Q => rMulB K x y H Q ∨ rManyL x y H Q
theorem op_mulC : OpR X (binaryOp .Mult) (rMulC X.K) := OpR.or op_mulB op_manyL
def gMulC : PyData → PyData → Option PyData
  | .list ds, .int k => if 0 ≤ k ∧ k ≤ 1000 ∧ ds.length ≤ 1000 then some (.list (repD k ds)) else none
  | d, e => gMulB d e
theorem repD_len (k : Int) (ds : List PyData) : (repD k ds).length = k.toNat * ds.length := rep_len ds k.toNat
theorem p_mulC {K : PySem.W.Frag} : Pure2 (rMulC K) gMulC := fun M H x y d e z Q hm hx hy hg k => by
  unfold gMulC at hg
  split at hg
  · rename_i ds n
    by_cases h : 0 ≤ n ∧ n ≤ 1000 ∧ ds.length ≤ 1000
    case neg => rw [if_neg h] at hg; cases hg
    rw [if_pos h] at hg
    cases hg
    obtain ⟨h1, h2, h3⟩ := h
    obtain ⟨a, xs, rfl, rd, q, l⟩ := hx.lst
    have hl := q.length
    have hz : n.toNat * xs.length ≤ 1000000 := by
      rw [hl]
      exact Nat.mul_le_mul (show n.toNat ≤ 1000 by omega) h3
    refine .inr ⟨a, n, xs, rfl, hy.int, rd, h1, by omega, Nat.le_trans hz (by decide), fun p hp => k _ _ (same_upd hp) (new_lst hm hp (rep_dv q n.toNat) ?_)⟩
    rw [repD_len, ← hl]
    exact hz
  · exact .inl (p_mulB M H x y d e z _ hm hx hy hg k)
end
/-! operations that lay a new list -/
def PureF2 (r : R2) (g : PyData → PyData → Option PyData) : Prop := ∀ (M : Addr → Prop) (H : Hp) (x y : V) (d e : PyData) (zs : List PyData) (Q : VK), (∀ b, M b → Mut (H b)) → Dv0 M H x d → Dv0 M H y e → g d e = some (.list zs) →
  (∀ p xs, H p = none → DvA M H xs zs → zs.length ≤ LIM → Q (.ref p) (upd H p (.lst xs))) → r x y H Q
theorem pf_add {K : PySem.W.Frag} : PureF2 (rAddA K) gAdd := fun M H x y d e zs Q hm hx hy hg k => by
  unfold gAdd at hg
  split at hg
  · cases hg
  · split at hg <;> cases hg
  · rename_i ds es
    by_cases h : ds.length + es.length ≤ LIM
    case neg => rw [if_neg h] at hg; cases hg
    rw [if_pos h] at hg
    cases hg
    obtain ⟨a, xs, rfl, r1, q1, _⟩ := hx.lst
    obtain ⟨b, ys, rfl, r2, q2, _⟩ := hy.lst
    have l1 := q1.length
    have l2 := q2.length
    exact .inr (.inr ⟨a, b, xs, ys, rfl, rfl, r1, r2, by rw [l1, l2]; exact lim_le h, fun p hp => k p _ hp (q1.append q2) (by rw [List.length_append]; exact h)⟩)
  · cases hg
theorem pf_mulC {K : PySem.W.Frag} : PureF2 (rMulC K) gMulC := fun M H x y d e zs Q hm hx hy hg k => by
  unfold gMulC at hg
  split at hg
  · rename_i ds n
    by_cases h : 0 ≤ n ∧ n ≤ 1000 ∧ ds.length ≤ 1000
    case neg => rw [if_neg h] at hg; cases hg
    rw [if_pos h] at hg
    cases hg
    obtain ⟨h1, h2, h3⟩ := h
    obtain ⟨a, xs, rfl, rd, q, l⟩ := hx.lst
    have hl := q.length
    have hz : n.toNat * xs.length ≤ 1000000 := by
      rw [hl]
      exact Nat.mul_le_mul (show n.toNat ≤ 1000 by omega) h3
    refine .inr ⟨a, n, xs, rfl, hy.int, rd, h1, by omega, Nat.le_trans hz (by decide), fun p hp => k p _ hp (rep_dv q n.toNat) ?_⟩
    rw [repD_len, ← hl]
    exact hz
  · unfold gMulB at hg
    split at hg
    · split at hg <;> cases hg
    · unfold gMul gI2c at hg
      split at hg
      · split at hg <;> cases hg
      · cases hg
theorem fresh_lay {P : Addr → Prop} {α α1 : List Addr} {e : DE} {w' : Wd} {σ : L2.St} {H H1 : Hp} {Q : VK} {ds : List PyData} (u1 : UpE α H α1 H1) (R1 : Rel P α1 e w' σ H1)
    (k : ∀ p xs H' α', UpE α H α' H' → H p = none → Rel (fun b => P b ∨ b = p) α' e w' σ H' → H' p = some (.lst xs) → DvA (Msk (fun b => P b ∨ b = p) α' e σ) H' xs ds → ds.length ≤ LIM → Q (.ref p) H') :
    ∀ p xs, H1 p = none → DvA (Msk P α1 e σ) H1 xs ds → ds.length ≤ LIM → Q (.ref p) (upd H1 p (.lst xs)) := fun p xs hp dv l1 => by
  have sm : Same H1 (upd H1 p (.lst xs)) := same_upd hp
  refine k p xs _ α1 (u1.trans (.of_same sm)) (u1.ex p hp) (R1.guard hp trivial) upd_same (dv.up (fun b o q _ => sm b o q) fun b m => ?_) l1
  rcases m with (m | m) | m
  · exact .inl (.inl m)
  · exact .inr (by rw [m]; exact hp)
  · exact .inl (.inr m)
theorem stepF2 {r : R2} {g : PyData → PyData → Option PyData} (hp : PureF2 r g) {f h : X1} {σ : L2.St} {H : Hp} {Q : VK} (q : tF (x2 g f h) σ H Q) : (tD f) σ H fun v H1 => tD h σ H1 fun u H2 => r v u H2 Q := by
  obtain ⟨P, α, e, w, ds, w', R, hf, k⟩ := q
  unfold x2 at hf
  cases h1 : f e w with
  | none => simp [h1] at hf
  | some p =>
    obtain ⟨ra, w1⟩ := p
    simp only [h1] at hf
    cases h2 : h e w1 with
    | none => simp [h2] at hf
    | some p =>
      obtain ⟨rb, w2⟩ := p
      simp only [h2] at hf
      cases h3 : valOf e w2 ra with
      | none => simp [h3] at hf
      | some d =>
        cases h4 : valOf e w2 rb with
        | none => simp [h3, h4] at hf
        | some d' =>
          simp only [h3, h4] at hf
          cases h5 : g d d' with
          | none => simp [h5] at hf
          | some z =>
            simp only [h5, Option.map_some] at hf
            cases hf
            exact ⟨P, α, e, w, ra, w1, R, h1, fun v H1 α1 u1 R1 i1 => ⟨P, α1, e, w1, rb, w', R1, h2, fun v2 H2 α2 u2 R2 i2 =>
              hp (Msk P α2 e σ) H2 v v2 d d' ds Q R2.mut ((i1.up u2).val R2 h3) (i2.val R2 h4) h5 (fresh_lay (u1.trans u2) R2 k)⟩⟩
structure LstG (g : PyData → PyData → Option PyData) (f h : X1) : Prop where
  at' : IsLst (x2 g f h)
section
variable {X : Cx} {x y : Expr} {es : List Expr} {pos : Pos} {f h : X1} {fs : A1}
theorem f_op {op : Operator} {r : R2} {g : PyData → PyData → Option PyData} (ho : OpR X (binaryOp op) r) (hp : PureF2 r g) (a : PE X x (tD f)) (b : PE X y (tD h)) : PE X (.BinOp x op y pos) (tF (x2 g f h)) := (pe_op ho a b).imp fun _ _ _ q => stepF2 hp q
/-- x = <a new list>, whatever else the expression might have been: only lists go on -/
def xL (f : X1) : X1 := fun e w => match f e w with
  | some (.v (.list ds), w1) => some (.v (.list ds), w1)
  | _ => none
theorem isl_xL : IsLst (xL f) := ⟨fun e w r w' h => by
  unfold xL at h
  split at h
  · cases h; exact ⟨_, rfl⟩
  · cases h⟩
theorem f_xL (a : PE X x (tF f)) : PE X x (tF (xL f)) := a.imp fun σ H Q q => by
  obtain ⟨P, α, e, w, ds, w', R, hf, k⟩ := q
  refine ⟨P, α, e, w, ds, w', R, ?_, k⟩
  unfold xL at hf
  split at hf
  · rename_i h1
    cases hf
    exact h1
  · cases hf
end
end DL
/-! ### calls beside further shared things; lists as shared things -/
namespace DL
open PySem PySem.Spec PyProof.Rows L2
/-! a call of a def that sees the first n shared things alone; what it leaves behind is forgotten -/
def objIn (n : Nat) : FA → Bool
  | .obj m => decide (m < n)
  | _ => true
def xCallT (n : Nat) (F : List FA → Wd → Option (FA × Wd)) (fs : A1) : X1 := fun e w => match fs e w with
  | some (rs, w1) => match argOf rs with
    | some as => if as.all (objIn n) && decide (n ≤ w1.length) then match F as (w1.take n) with
      | some (.val d, w2) => if n ≤ w2.length then some (.v d, w2.take n ++ w1.drop n) else none
      | _ => none
      else none
    | none => none
  | none => none
theorem take_get {A : Type} {l : List A} {n i : Nat} {a : A} (h : (l.take n)[i]? = some a) : l[i]? = some a ∧ i < n := by
  rw [List.getElem?_take] at h
  split at h
  · exact ⟨h, by assumption⟩
  · cases h
theorem arg_in {P' M : Addr → Prop} {α : List Addr} {e : DE} {P : Addr → Prop} {σ : L2.St} {H : Hp} {n : Nat} (hP : ∀ b, P' b ∨ b ∈ α.take n → Msk P α e σ b) : ∀ {vs : List V} {rs : List RS} {as : List FA}, as.all (objIn n) = true → IsRs P α e σ H vs rs → argOf rs = some as → IsFs P' (α.take n) H vs as
  | _, _, _, _, .nil, q => by cases q; exact .nil
  | _, .v d :: rs, as, ha, .cons a b, q => by
    cases h : argOf rs with
    | none => simp [argOf, h] at q
    | some as' =>
      simp only [argOf, h, Option.map_some] at q
      cases q
      rw [List.all_cons, Bool.and_eq_true] at ha
      exact .cons (Dv.less (show Dv _ H _ d from a) hP) (arg_in (M := M) hP ha.2 b h)
  | _, .obj m :: rs, as, ha, .cons a b, q => by
    cases h : argOf rs with
    | none => simp [argOf, h] at q
    | some as' =>
      simp only [argOf, h, Option.map_some] at q
      cases q
      rw [List.all_cons, Bool.and_eq_true] at ha
      obtain ⟨c, h1, h2⟩ := a
      have hm : m < n := of_decide_eq_true ha.1
      exact .cons ⟨c, by rw [List.getElem?_take, if_pos hm]; exact h1, h2⟩ (arg_in (M := M) hP ha.2 b h)
  | _, .scr K ns :: rs, as, ha, .cons a b, q => by
    cases h : argOf rs with
    | none => simp [argOf, h] at q
    | some as' =>
      simp only [argOf, h, Option.map_some] at q
      cases q
      rw [List.all_cons, Bool.and_eq_true] at ha
      exact .cons (ScrIs.up (show ScrIs _ H _ K ns from a) (fun _ _ q _ => q) fun b m => .inl (hP b m)) (arg_in (M := M) hP ha.2 b h)
  | _, .own _ :: _, _, _, .cons _ _, q => by simp [argOf] at q
theorem callT_step {F : List FA → Wd → Option (FA × Wd)} {n : Nat} {fs : A1} {m : Nat} (hn : ALen fs m) {E : XK} {σ : L2.St} {H : Hp} {Q : VK} (q : tD (xCallT n F fs) σ H Q) : tCall (spD m F) [] E (tDA fs) σ H Q := by
  obtain ⟨P, α, e, w, r, w', R, hf, kk⟩ := q
  unfold xCallT at hf
  cases h1 : fs e w with
  | none => simp [h1] at hf
  | some p =>
    obtain ⟨rs, w1⟩ := p
    simp only [h1] at hf
    cases h2 : argOf rs with
    | none => simp [h2] at hf
    | some as =>
      simp only [h2] at hf
      by_cases hin : (as.all (objIn n) && decide (n ≤ w1.length)) = true
      case neg => rw [if_neg hin] at hf; cases hf
      rw [if_pos hin] at hf
      rw [Bool.and_eq_true, decide_eq_true_eq] at hin
      obtain ⟨hin, hnw⟩ := hin
      cases h3 : F as (w1.take n) with
      | none => simp [h3] at hf
      | some z =>
        obtain ⟨z, w2⟩ := z
        match z, h3, hf with
        | .obj _, h3, hf => simp [h3] at hf
        | .scr _ _, h3, hf => simp [h3] at hf
        | .val d, h3, hf =>
          simp only [h3] at hf
          by_cases hw : n ≤ w2.length
          case neg => rw [if_neg hw] at hf; cases hf
          rw [if_pos hw] at hf
          cases hf
          refine ⟨P, α, e, w, rs, w1, R, h1, fun vs H1 α1 u1 R1 i1 => ?_⟩
          show spD m F (vs ++ []) H1 Q E
          rw [List.append_nil]
          have hna : n ≤ α1.length := by rw [R1.al]; exact hnw
          -- what the callee may not touch
          have sub : ∀ b, (P b ∨ OwnAt e σ b ∨ b ∈ α1.drop n) ∨ b ∈ α1.take n ↔ Msk P α1 e σ b := fun b => by
            have e1 : b ∈ α1 ↔ b ∈ α1.take n ∨ b ∈ α1.drop n := by
              conv => lhs; rw [← List.take_append_drop n α1]
              exact List.mem_append
            unfold Msk
            rw [e1]
            constructor
            · rintro ((m | m | m) | m)
              · exact .inl m
              · exact .inr (.inr m)
              · exact .inr (.inl (.inr m))
              · exact .inr (.inl (.inl m))
            · rintro (m | (m | m) | m)
              · exact .inl (.inl m)
              · exact .inr m
              · exact .inl (.inr (.inr m))
              · exact .inl (.inr (.inl m))
          have dis : ∀ b, b ∈ α1.take n → b ∉ α1.drop n := fun b h1 h2 => by
            have := R1.nd
            rw [← List.take_append_drop n α1, List.nodup_append] at this
            exact this.2.2 b h1 b h2 rfl
          have i2 := arg_in (M := P) (P' := fun b => P b ∨ OwnAt e σ b ∨ b ∈ α1.drop n) (fun b => (sub b).mp) hin i1 h2
          have hl : as.length = m := by
            have := Paired.len i2
            rw [Paired.len i1, hn.ln _ _ _ _ h1] at this
            exact this.symm
          have bare : ∀ {P' : Addr → Prop} {β : List Addr} (b : Addr), Msk P' β [] [] b ↔ P' b ∨ b ∈ β := fun b => ⟨fun m => by
            rcases m with m | m | ⟨_, _, q, _⟩
            · exact .inl m
            · exact .inr m
            · simp at q, fun m => m.elim .inl fun m => .inr (.inl m)⟩
          have RC : Rel (fun b => P b ∨ OwnAt e σ b ∨ b ∈ α1.drop n) (α1.take n) [] (w1.take n) [] H1 := by
            refine ⟨rfl, R1.nd.sublist (List.take_sublist ..), fun b hb m => ?_, fun b m => R1.mut b ((sub b).mp (.inl m)), by rw [List.length_take, List.length_take, R1.al], fun i o a q1 q2 => ?_, fun i x h => by simp at h, fun i ds b h => by simp at h, fun i j ds es b h => by simp at h⟩
            · rcases m with m | ⟨i, ds, q1, q2⟩ | m
              · exact R1.pa b (List.mem_of_mem_take hb) m
              · exact (R1.oa i ds b q1 q2).1 (List.mem_of_mem_take hb)
              · exact dis b hb m
            · exact (R1.ob i o a (take_get q1).1 (take_get q2).1).less fun b m => (sub b).mp ((bare b).mp m)
          refine ⟨_, α1.take n, as, w1.take n, .val d, w2, RC, i2, hl, h3, fun v H2 α2 u2 R2 i3 => ?_⟩
          obtain ⟨β, hβ⟩ := u2.pre
          have l2 : n ≤ α2.length := by rw [R2.al]; exact hw
          have t2 : α2.take n = α1.take n := by
            rw [hβ, List.take_append_of_le_length (by rw [List.length_take]; omega), List.take_take, Nat.min_self]
          have kp : ∀ b o, H1 b = some o → b ∉ α1.take n → H2 b = some o := u2.kp
          have uE : UpE α1 H1 α1 H2 := ⟨⟨[], by simp⟩, fun b h n => absurd h n, fun b o h nb => kp b o h fun z => nb (List.mem_of_mem_take z), u2.ex⟩
          have RE : Rel P α1 e (w2.take n ++ w1.drop n) σ H2 := by
            have le2 : ∀ b, Msk P α1 e σ b → Msk (fun b => P b ∨ OwnAt e σ b ∨ b ∈ α1.drop n) α2 [] [] b := fun b m => (bare b).mpr (((sub b).mpr m).imp id fun z => by
              rw [← t2] at z
              exact List.mem_of_mem_take z)
            refine ⟨R1.ln, R1.nd, R1.pa, fun b m => R2.pt b (.inl m), ?_, fun i o a q1 q2 => ?_, fun i x h => ?_, R1.oa, R1.od⟩
            · rw [List.length_append, List.length_take, List.length_drop, R1.al]
              omega
            · by_cases hi : i < n
              · rw [List.getElem?_append_left (by rw [List.length_take]; omega), List.getElem?_take, if_pos hi] at q1
                have q3 : α2[i]? = some a := by
                  have : (α2.take n)[i]? = some a := by rw [t2, List.getElem?_take, if_pos hi]; exact q2
                  exact (take_get this).1
                exact (R2.ob i o a q1 q3).less le2
              · rw [List.getElem?_append_right (by rw [List.length_take]; omega), List.getElem?_drop, List.length_take] at q1
                rw [show n + (i - min n w2.length) = i by omega] at q1
                have na : a ∉ α1.take n := fun z => by
                  obtain ⟨j, hj, e1⟩ := List.getElem_of_mem z
                  have hj2 : j < n := by rw [List.length_take] at hj; omega
                  have q4 : α1[j]? = some a := by
                    have : (α1.take n)[j]? = some a := by rw [List.getElem?_eq_getElem hj, e1]
                    exact (take_get this).1
                  have := nd_ix R1.nd q4 q2
                  omega
                exact (R1.ob i o a q1 q2).up (fun u q => kp a u q na) (fun b o q nb => kp b o q fun z => nb ((sub b).mp (.inr z))) fun b m => .inl m
            · obtain ⟨v, q1, q2⟩ := R1.sl i x h
              refine ⟨v, q1, ?_⟩
              cases x with
              | v d => exact Dv.upE (show Dv _ H1 v d from q2) uE
              | own ds =>
                obtain ⟨b, xs, e1, e2, e3, e4⟩ := q2
                exact ⟨b, xs, e1, uE.kp _ _ e2 (R1.oa i ds b h (by rw [q1, e1])).1, e3.upE uE, e4⟩
              | obj n => exact q2
              | scr K ns => exact ScrIs.up (show ScrIs _ H1 v K ns from q2) (fun b o q n => uE.kp b o q fun hb => n (.inr (.inl hb))) fun b m => .inl m
          refine kk v H2 α1 (u1.trans uE) RE (Dv.less (show Dv _ H2 v d from i3) fun b m => ?_)
          refine ((sub b).mpr m).imp id fun z => ?_
          rw [← t2] at z
          exact List.mem_of_mem_take z
section
variable {X : Cx} {k : Nat} {f : Addr} {fd : FuncData} {ps : List Str} {x : Str} {p pos : Pos} {e : Expr} {es : List Expr} {fs : A1}
theorem d_callT (n : Nat) {F : List FA → Wd → Option (FA × Wd)} (G : FnOk X.prog X.w X.K X.mg X.base CX0 k f fd ps (spD ps.length F)) (hr : Room k X.A) (hg : Gl X x) (hm : X.mg x = some (.ref f)) (hk : PySem.W.keepIn X.K (.ref f) = true) (hb : Binds X.K fd ps []) (ha : PA X (e :: es) (tDA fs)) (hn : ALen fs ps.length)
    (hdb : (x == ("__debug__" : Str)) = false := by decide) (he : starEach (e :: es) X.env = (false, eval e X.env) :: starEach es X.env := by rfl) (hpl : (backTo pos (starEach es X.env)).any (·.1) = false := by rfl) : PE X (.Call (.Name x p) (e :: es) [] pos) (tD (xCallT n F fs)) :=
  (pe_call G hr hg hm hk hb .nil pass0 ha hdb he hpl).imp fun _ _ _ q => callT_step hn q
end
/-- how such a call goes: the deck o, the other things beside it -/
theorem xCallT_ev {F : List FA → Wd → Option (FA × Wd)} {fs : A1} {e : DE} {w : Wd} {rs : List RS} {as : List FA} {o o' : WO} {r more : Wd} {d : PyData} (h1 : fs e w = some (rs, o :: r)) (h2 : argOf rs = some as) (h4 : as.all (objIn 1) = true) (h3 : F as [o] = some (.val d, o' :: more)) : xCallT 1 F fs e w = some (.v d, o' :: r) := by
  simp only [xCallT, h1, h2, h4, List.take_succ_cons, List.take_zero, h3, List.drop_succ_cons, List.drop_zero, List.length_cons, List.cons_append, List.nil_append]
  simp

/-! a list as a shared thing -/
/-- what stands guarded becomes a shared thing -/
theorem Rel.adopt {P : Addr → Prop} {α : List Addr} {e : DE} {w : Wd} {σ : L2.St} {H : Hp} {p : Addr} {o : WO} (R : Rel (fun b => P b ∨ b = p) α e w σ H) (nP : ¬ P p) (ho : ∀ M', (∀ b, M' b → Msk (fun b => P b ∨ b = p) α e σ b) → ObIs M' H p o) : Rel P (α ++ [p]) e (w ++ [o]) σ H := by
  have np : p ∉ α := fun z => R.pa p z (.inr rfl)
  have lm : ∀ b, Msk P (α ++ [p]) e σ b → Msk (fun b => P b ∨ b = p) α e σ b := fun b m => by
    rcases m with m | m | m
    · exact .inl (.inl m)
    · rcases List.mem_append.mp m with m | m
      · exact .inr (.inl m)
      · exact .inl (.inr (List.mem_singleton.mp m))
    · exact .inr (.inr m)
  refine ⟨R.ln, ?_, fun b hb => ?_, fun b z => R.pt b (.inl z), by rw [List.length_append, List.length_append, R.al]; rfl, fun n z c h1 h2 => ?_, fun i x h => ?_, fun i ds b h1 h2 => ⟨fun hb => ?_, fun z => (R.oa i ds b h1 h2).2 (.inl z)⟩, R.od⟩
  · rw [List.nodup_append]
    exact ⟨R.nd, by simp, fun x hx y hy => by rw [List.mem_singleton.mp hy]; exact fun z => np (z ▸ hx)⟩
  · rcases List.mem_append.mp hb with hb | hb
    · exact fun z => R.pa b hb (.inl z)
    · rw [List.mem_singleton.mp hb]; exact nP
  · by_cases hn : n < w.length
    · rw [List.getElem?_append_left hn] at h1
      rw [List.getElem?_append_left (by rw [R.al]; exact hn)] at h2
      exact (R.ob n z c h1 h2).less lm
    · have hn1 : n = w.length := by
        have := (List.getElem?_eq_some_iff.mp h1).1
        rw [List.length_append] at this
        simp at this
        omega
      subst hn1
      rw [List.getElem?_append_right (Nat.le_refl _)] at h1
      rw [List.getElem?_append_right (by rw [R.al]; exact Nat.le_refl _)] at h2
      simp at h1
      rw [R.al] at h2
      simp at h2
      subst h1 h2
      exact ho _ lm
  · obtain ⟨v, h1, h2⟩ := R.sl i x h
    refine ⟨v, h1, ?_⟩
    cases x with
    | v d => exact Dv.less (show Dv _ H v d from h2) lm
    | own ds => obtain ⟨b, xs, e1, e2, e3, e4⟩ := h2; exact ⟨b, xs, e1, e2, e3.less lm, e4⟩
    | obj n =>
      obtain ⟨a, h3, h4⟩ := h2
      exact ⟨a, by rw [List.getElem?_append_left (List.getElem?_eq_some_iff.mp h3).1]; exact h3, h4⟩
    | scr K ns => exact ScrIs.up (show ScrIs _ H v K ns from h2) (fun _ _ q _ => q) fun b m => .inl (lm b m)
  · rcases List.mem_append.mp hb with hb | hb
    · exact (R.oa i ds b h1 h2).1 hb
    · rw [List.mem_singleton.mp hb] at h2
      exact (R.oa i ds p h1 h2).2 (.inr rfl)
theorem UpE.adopt {α β : List Addr} {H H' : Hp} {p : Addr} (u : UpE α H β H') (hp : H p = none) : UpE α H (β ++ [p]) H' := ⟨by
    obtain ⟨γ, h⟩ := u.pre
    exact ⟨γ ++ [p], by rw [h, List.append_assoc]⟩, fun b hb n => by
    rcases List.mem_append.mp hb with hb | hb
    · exact u.fre b hb n
    · rw [List.mem_singleton.mp hb]; exact hp, u.kp, u.ex⟩
def xNewL (f : X1) : X1 := fun e w => match f e w with
  | some (.v (.list ds), w1) => some (.obj w1.length, w1 ++ [.lst ds])
  | _ => none
section
variable {X : Cx} {x y : Expr} {pos : Pos} {f h : X1}
theorem d_newL (a : PE X x (tF f)) : PE X x (tD (xNewL f)) := a.imp fun σ H Q q => by
  obtain ⟨P, α, e, w, r, w', R, hf, k⟩ := q
  unfold xNewL at hf
  split at hf
  · rename_i ds w1 h1
    cases hf
    refine ⟨P, α, e, w, ds, w1, R, h1, fun p xs H1 α1 u1 hp R1 hx dv hl => ?_⟩
    have nP : ¬ P p := fun z => not_P R hp (.inl z)
    refine k (.ref p) H1 (α1 ++ [p]) (u1.adopt hp) (R1.adopt nP fun M' lm => ⟨xs, hx, dv.less lm, hl⟩) ⟨p, ?_, rfl⟩
    rw [← R1.al, List.getElem?_append_right (Nat.le_refl _)]
    simp
  · cases hf
theorem _root_.DL.DvA.erase {M : Addr → Prop} {H : Hp} : ∀ {vs : List V} {ds : List PyData} (n : Nat), DvA M H vs ds → DvA M H (vs.eraseIdx n) (ds.eraseIdx n)
  | _, _, _, .nil => .nil
  | _, _, 0, .cons _ r => r
  | _, _, n + 1, .cons a r => .cons a (DvA.erase n r)
/-- xs.pop(i) -/
def xPop (f h : X1) : X1 := fun e w => match f e w with
  | some (.obj n, w1) => match h e w1 with
    | some (.v (.int i), w2) => match w1[n]?, w2[n]? with
      | some (.lst _), some (.lst ds) => if 0 ≤ i ∧ i < ds.length then match ds[i.toNat]? with
        | some d => some (.v d, w2.set n (.lst (ds.eraseIdx i.toNat)))
        | none => none
        else none
      | _, _ => none
    | _ => none
  | _ => none
theorem pop_step {K : PySem.W.Frag} {σ : L2.St} {H : Hp} {Q : VK} (q : tD (xPop f h) σ H Q) : tBM K "list" rPopAt (tD f) (tCons (tD h) tNil) σ H Q := by
  obtain ⟨P, α, e, w, r, w', R, hf, k⟩ := q
  unfold xPop at hf
  cases h1 : f e w with
  | none => simp [h1] at hf
  | some q =>
    obtain ⟨ra, w1⟩ := q
    simp only [h1] at hf
    match ra, h1, hf with
    | .v _, h1, hf => cases hf
    | .own _, h1, hf => cases hf
    | .scr _ _, h1, hf => cases hf
    | .obj n, h1, hf =>
      simp only at hf
      cases h2 : h e w1 with
      | none => simp [h2] at hf
      | some q =>
        obtain ⟨rb, w2⟩ := q
        simp only [h2] at hf
        match rb, h2, hf with
        | .own _, h2, hf => cases hf
        | .obj _, h2, hf => cases hf
        | .scr _ _, h2, hf => cases hf
        | .v d, h2, hf =>
          cases d with
          | int i =>
            simp only at hf
            cases h3 : w1[n]? with
            | none => simp [h3] at hf
            | some o1 =>
              cases h4 : w2[n]? with
              | none => simp [h3, h4] at hf
              | some o2 =>
                match o1, o2, h3, h4, hf with
                | .dct _, _, h3, h4, hf => simp [h3] at hf
                | .dtt _, _, h3, h4, hf => simp [h3] at hf
                | .lst _, .dtt _, h3, h4, hf => simp [h3, h4] at hf
                | .lst _, .dct _, h3, h4, hf => simp [h3, h4] at hf
                | .lst ds0, .lst ds, h3, h4, hf =>
                  simp only [h3, h4] at hf
                  by_cases hi : 0 ≤ i ∧ i < ds.length
                  case neg => rw [if_neg hi] at hf; cases hf
                  rw [if_pos hi] at hf
                  cases h5 : ds[i.toNat]? with
                  | none => simp [h5] at hf
                  | some d =>
                    simp only [h5] at hf
                    cases hf
                    refine ⟨P, α, e, w, .obj n, w1, R, h1, fun v H1 α1 u1 R1 i1 => ?_⟩
                    obtain ⟨a, ha, rfl⟩ := i1
                    obtain ⟨xs0, hb0, dv0, _⟩ := R1.ob n _ a h3 ha
                    refine ⟨.inl ⟨rfl, xs0, SqL.of hb0⟩, P, α1, e, w1, .v (.int i), w2, R1, h2, fun y H2 α2 u2 R2 i2 => ?_⟩
                    have ey := int_of (show Dv _ _ y (.int i) from i2)
                    subst ey
                    obtain ⟨xs, hb, dv, hl⟩ := R2.ob n _ a h4 (u2.get ha)
                    obtain ⟨z, hz, dz⟩ := dv.get h5
                    have hx : xs.length = ds.length := dv.length
                    have hlim : ds.length ≤ 1000000 := hl
                    refine ⟨a, xs, i, i.toNat, z, rfl, rfl, hb, by omega, by omega, ?_, hz, ?_⟩
                    · unfold seqIndex?
                      have e1 : ¬ i < 0 := by omega
                      have e2 : i < (xs.length : Int) := by rw [hx]; exact hi.2
                      simp [e1, e2, hi.1]
                    · have el : (ds.eraseIdx i.toNat).length ≤ LIM := Nat.le_trans (List.length_eraseIdx_le ..) hl
                      have R3 := R2.objSet (o := .lst (ds.eraseIdx i.toNat)) (u := .lst (xs.eraseIdx i.toNat)) (u2.get ha) trivial fun H' nm h => ⟨_, h, (dv.up nm fun c m => .inl m).erase i.toNat, el⟩
                      have ma : Msk P α2 e σ a := .inr (.inl (List.mem_of_getElem? (u2.get ha)))
                      have uA : UpE α H α2 (upd H2 a (.lst (xs.eraseIdx i.toNat))) := ⟨(u1.trans u2).pre, (u1.trans u2).fre, fun b o hq nb => by
                        by_cases hba : b = a
                        · have ha2 : a ∈ α2 := List.mem_of_getElem? (u2.get ha)
                          rw [hba] at hq nb
                          rw [(u1.trans u2).fre a ha2 nb] at hq
                          cases hq
                        · rw [upd_ne hba]; exact (u1.trans u2).kp b o hq nb, fun b hq => by
                        by_cases hba : b = a
                        · rw [hba, upd_same] at hq; cases hq
                        · rw [upd_ne hba] at hq; exact (u1.trans u2).ex b hq⟩
                      refine k z _ α2 uA R3 (dz.up (fun b o q nb => ?_) fun b m => .inl m)
                      rw [upd_ne (fun hb => nb (by rw [hb]; exact ma))]
                      exact q
          | _ => cases hf
end
end DL
/-! ### list(range(n)), sorted(..) as new lists; a, b = x, y with shared things; a, b = <list> -/
namespace DL
open PySem PySem.Spec PyProof.Rows L2
section
variable {X : Cx} {x y : Expr} {pos : Pos} {f h : X1} {fs : A1}
theorem tF_lstRg {σ : L2.St} {H : Hp} {Q : VK} (q : tF (x1 gLstRg f) σ H Q) : (tD f) σ H fun v H1 => ∃ n : Int, v = .int n ∧ RgOk 0 n ∧ ∀ q, H1 q = none → Q (.ref q) (upd H1 q (.lst (rgV 0 n))) := by
  obtain ⟨P, α, e, w, ds, w', R, hf, k⟩ := q
  unfold x1 at hf
  cases h1 : f e w with
  | none => simp [h1] at hf
  | some p =>
    obtain ⟨ra, w1⟩ := p
    simp only [h1] at hf
    cases h2 : valOf e w1 ra with
    | none => simp [h2] at hf
    | some d =>
      simp only [h2] at hf
      match d, h2, hf with
      | .none, h2, hf => simp [gLstRg] at hf
      | .bool _, h2, hf => simp [gLstRg] at hf
      | .str _, h2, hf => simp [gLstRg] at hf
      | .list _, h2, hf => simp [gLstRg] at hf
      | .tuple _, h2, hf => simp [gLstRg] at hf
      | .dict _, h2, hf => simp [gLstRg] at hf
      | .int n, h2, hf =>
        by_cases hs : smallI n = true
        · simp only [gLstRg, hs, if_true, Option.map_some] at hf
          cases hf
          refine ⟨P, α, e, w, ra, w', R, h1, fun v H1 α1 u1 R1 i1 => ?_⟩
          have hs' := hs
          unfold smallI at hs'
          simp only [Bool.and_eq_true, decide_eq_true_eq] at hs'
          refine ⟨n, (i1.val R1 h2).int, ⟨by decide, by decide, by omega, by omega, by omega⟩, fun q hq => fresh_lay u1 R1 k q _ hq (rg_dv n) ?_⟩
          rw [rangeL_len]
          show n.toNat ≤ 1000000
          omega
        · simp [gLstRg, hs] at hf
theorem f_lstRg {p p3 pos2 : Pos} (hc : X.calm = true) (hg : Gl X "list") (hm : X.mg "list" = none) (hg2 : Gl X "range") (hm2 : X.mg "range" = none) (a : PE X x (tD f))
    (na : starEach [.Call (.Name "range" p3) [x] [] pos2] X.env = (false, eval (.Call (.Name "range" p3) [x] [] pos2) X.env) :: starEach [] X.env := by rfl) (nb : starEach [x] X.env = (false, eval x X.env) :: starEach [] X.env := by rfl) :
    PE X (.Call (.Name "list" p) [.Call (.Name "range" p3) [x] [] pos2] [] pos) (tF (x1 gLstRg f)) :=
  (pe_listRg hc hg hm (prg_1 hg2 hm2 a nb) na).imp fun σ H Q q => tF_lstRg q
theorem tF_sorted {K : PySem.W.Frag} {σ : L2.St} {H : Hp} {Q : VK} (q : tF (xN gSorted fs) σ H Q) : (tDA fs) σ H fun vs H1 => rSortD K vs H1 Q := by
  obtain ⟨P, α, e, w, ds, w', R, hf, k⟩ := q
  unfold xN at hf
  cases h1 : fs e w with
  | none => simp [h1] at hf
  | some p =>
    obtain ⟨rs, w1⟩ := p
    simp only [h1] at hf
    cases h2 : valsOf e w1 rs with
    | none => simp [h2] at hf
    | some es =>
      simp only [h2] at hf
      match es, h2, hf with
      | [.list es], h2, hf =>
        by_cases ok : sortOk es = true
        · simp only [gSorted, ok, if_true, Option.map_some] at hf
          cases hf
          refine ⟨P, α, e, w, rs, w', R, h1, fun vs H1 α1 u1 R1 i1 => ?_⟩
          obtain ⟨v, rfl, dv⟩ := one (vals_of R1 i1 h2)
          obtain ⟨a, ys, rfl, rd, q, l⟩ := dv.lst
          refine ⟨a, ys, es, rfl, .inl rd, q.less fun b z => z.elim, l, ok, fun zs p hz hp => fresh_lay u1 R1 k p _ hp (hz _ q) ?_⟩
          show (sortD es).length ≤ LIM
          unfold sortD
          rw [List.length_mergeSort]
          exact l
        · simp [gSorted, ok] at hf
      | [], h2, hf => simp [gSorted] at hf
      | [.none], h2, hf => simp [gSorted] at hf
      | [.bool _], h2, hf => simp [gSorted] at hf
      | [.int _], h2, hf => simp [gSorted] at hf
      | [.str _], h2, hf => simp [gSorted] at hf
      | [.tuple _], h2, hf => simp [gSorted] at hf
      | [.dict _], h2, hf => simp [gSorted] at hf
      | _ :: _ :: _, h2, hf => simp [gSorted] at hf
theorem f_sorted {p : Pos} (hu : X.A.units + 100 < cLine) (hg : Gl X "sorted") (hm : X.mg "sorted" = none) (ha : PA X [x] (tDA fs)) (he : starEach [x] X.env = (false, eval x X.env) :: starEach [] X.env := by rfl) (hpl : (backTo pos (starEach [] X.env)).any (·.1) = false := by rfl) :
    PE X (.Call (.Name "sorted" p) [x] [] pos) (tF (xN gSorted fs)) := (pe_callB (call_sortedD hu) hg hm boot_sorted_ ha (by decide) (by decide) he hpl).imp fun _ _ _ q => tF_sorted q
/-! a, b = x, y where shared things may stand -/
def slotOf : RS → Option SV
  | .v d => some (.v d)
  | .obj n => some (.obj n)
  | _ => none
theorem slot_is {P : Addr → Prop} {α : List Addr} {e : DE} {σ : L2.St} {H : Hp} {v : V} {r : RS} {z : SV} (h : slotOf r = some z) (i : IsR P α e σ H v r) : SvIs (Msk P α e σ) α H v z ∧ ∀ ds, z ≠ .own ds := by
  cases r with
  | v d => cases h; exact ⟨i, fun ds q => nomatch q⟩
  | obj n => cases h; exact ⟨i, fun ds q => nomatch q⟩
  | own _ => cases h
  | scr _ _ => cases h
def sParR (i j : Nat) (fs : A1) : S1 := fun e w => match fs e w with
  | some ([r, r'], w1) => match slotOf r, slotOf r' with
    | some z, some z' => some (.nx ((e.set i (some z)).set j (some z')) w1)
    | _, _ => none
  | _ => none
theorem ds_parR {i j : Nat} {n m : Str} {px py pt : Pos} {kt k2 pt2} (hc : X.calm = true) (hN : X.N.Nodup) (hi : X.N[i]? = some n) (hj : X.N[j]? = some m) (hij : i ≠ j)
    (hx : X.env.scope.names.lookup n = some .local) (hy : X.env.scope.names.lookup m = some .local) (ha : PA X [x, y] (tDA fs))
    (hw : swappedStores [.Tuple [.Name n px, .Name m py] kt pt] (.Tuple [x, y] k2 pt2) X.env = pure (some [n, m]))
    (hs : swapsWithSole [.Tuple [.Name n px, .Name m py] kt pt] (.Tuple [x, y] k2 pt2) pos.line X.env = pure false := by rfl) :
    PS X (.Assign [.Tuple [.Name n px, .Name m py] kt pt] (.Tuple [x, y] k2 pt2) pos) (tS (sParR i j fs)) := (ps_par hc hN hi hj hij hx hy ha hw hs).imp fun D σ H q => by
  obtain ⟨P, α, e, w, o, R, hf, k⟩ := q
  unfold sParR at hf
  split at hf
  · rename_i r r' w1 h1
    split at hf
    · rename_i z z' hz hz'
      cases hf
      refine ⟨P, α, e, w, _, w1, R, h1, fun vs H1 α1 u1 R1 i1 => ?_⟩
      cases i1 with
      | @cons v _ vr _ a b =>
        cases b with
        | @cons v' _ _ _ b b2 =>
          cases b2 with
          | nil =>
            obtain ⟨a1, na⟩ := slot_is hz a
            obtain ⟨b1, nb⟩ := slot_is hz' b
            have R2 := R1.put (i := i) (x := z) (v := v) na a1
            have b' : SvIs (Msk P α1 (e.set i (some z)) (σ.set i (some v))) α1 H1 v' z' := SvIs.less b1 fun c m => Msk.le (fun c => own_put na) m
            exact ⟨v, v', rfl, k _ H1 α1 ((UpS.put na u1).trans (UpS.put nb (UpE.refl α1 H1))) (R2.put (i := j) (x := z') (v := v') nb b')⟩
    · cases hf
  · cases hf
/-- the same where the names stand in cells: a tuple is laid and taken apart -/
theorem ds_parC {i j : Nat} {tg : Expr} {k2 pt2} (ha : PA X [x, y] (tDA fs)) (hij : i ≠ j) (hg : PG X tg (gTup X.K 2 (gCons (gName i) (gCons (gName j) gNil)))) (hs : swapsWithSole [tg] (.Tuple [x, y] k2 pt2) pos.line X.env = pure false := by rfl) (hw : swappedStores [tg] (.Tuple [x, y] k2 pt2) X.env = pure none := by rfl)
    (h1 : (assignEach [tg] X.env).map (·.2) = [assign tg X.env] := by rfl) : PS X (.Assign [tg] (.Tuple [x, y] k2 pt2) pos) (tS (sParR i j fs)) := (ps_asg (pe_tup ha) hg hs hw h1).imp fun D σ H q => by
  obtain ⟨P, α, e, w, o, R, hf, k⟩ := q
  unfold sParR at hf
  split at hf
  · rename_i r r' w1 h1
    split at hf
    · rename_i z z' hz hz'
      cases hf
      refine ⟨P, α, e, w, _, w1, R, h1, fun vs H1 α1 u1 R1 i1 => ?_⟩
      cases i1 with
      | @cons v _ vr _ a b =>
        cases b with
        | @cons v' _ _ _ b b2 =>
          cases b2 with
          | nil =>
            refine ⟨by show 2 ≤ sizeLine; decide, fun p hp => ⟨p, [v, v'], rfl, SqT.of upd_same, rfl, v, [v'], rfl, v', [], rfl, rfl, ?_⟩⟩
            have sm : Same H1 (upd H1 p (.tup [v, v'])) := same_upd hp
            have uS : UpE α H α1 (upd H1 p (.tup [v, v'])) := u1.trans (.of_same sm)
            obtain ⟨a1, na⟩ := slot_is hz (a.up (.of_same sm))
            obtain ⟨b1, nb⟩ := slot_is hz' (b.up (.of_same sm))
            have R2 := (R1.same sm).put (i := i) (x := z) (v := v) na a1
            have b' : SvIs (Msk P α1 (e.set i (some z)) (σ.set i (some v))) α1 (upd H1 p (.tup [v, v'])) v' z' := SvIs.less b1 fun c m => Msk.le (fun c => own_put na) m
            exact k _ _ α1 ((UpS.put na uS).trans (UpS.put nb (UpE.refl α1 _))) (R2.put (i := j) (x := z') (v := v') nb b')
    · cases hf
  · cases hf
theorem d_pop {K : PySem.W.Frag} (a : PE X x (tBM K "list" rPopAt (tD f) (tCons (tD h) tNil))) : PE X x (tD (xPop f h)) := a.imp fun _ _ _ q => pop_step q
/-! a, b, c = <list> -/
def gTA (gs : GS1) : G1 := fun d e => match d with
  | .list ds => gs ds e
  | _ => none
theorem gd_lst {K : PySem.W.Frag} {ts : TGs} {gs : GS1} {vs : List Nat} {n : Nat} (h : GDs ts gs vs) (hl : GLen gs n) : GD (gLst K n ts) (gTA gs) vs := ⟨fun P α e w σ H v d e' Q R hv hg k => by
  cases d with
  | list ds =>
    cases hv with
    | atm q => cases q
    | @lst a xs _ nm r l q =>
      exact ⟨a, xs, rfl, .inl r, by rw [q.length]; exact hl.ln ds e e' hg, h.run P α e w σ H xs ds e' Q R q hg k⟩
  | none => cases hg
  | bool _ => cases hg
  | int _ => cases hg
  | str _ => cases hg
  | tuple _ => cases hg
  | dict _ => cases hg⟩
end
end DL
/-! ### dicts of numbers, texts, tuples of these as shared things -/
namespace DL
open PySem PySem.Spec PyProof.Rows L2
def keyV : PyData → Option Key
  | .int i => some (.inl i)
  | .str x => some (.inr x)
  | _ => none
def keysV : List PyData → Option (List Key)
  | [] => some []
  | d :: r => match keyV d, keysV r with
    | some k, some ks => some (k :: ks)
    | _, _ => none
def keyT : PyData → Option (List Key)
  | .tuple ds => keysV ds
  | _ => none
def getT (kvs : List (List Key × PyData)) (k : List Key) : Option PyData := (kvs.find? fun kv => decide (kv.1 = k)).map (·.2)
def putTD (kvs : List (List Key × PyData)) (k : List Key) (d : PyData) : List (List Key × PyData) :=
  if (kvs.any fun kv => decide (kv.1 = k)) = true then kvs.map (fun kv => if kv.1 = k then (kv.1, d) else kv) else kvs ++ [(k, d)]
theorem keyV_ok {M : Addr → Prop} {H : Hp} {v : V} {d : PyData} {k : Key} (h : Dv0 M H v d) (e : keyV d = some k) : v = kV k := by
  cases d with
  | int i => cases e; exact h.int
  | str x => cases e; exact h.str
  | _ => cases e
theorem keysV_ok {M : Addr → Prop} {H : Hp} : ∀ {vs : List V} {ds : List PyData} {ks : List Key}, DvA M H vs ds → keysV ds = some ks → vs = ks.map kV
  | _, [], _, h, e => by cases h; cases e; rfl
  | _, d :: r, ks, h, e => by
    cases h with
    | cons a b =>
      unfold keysV at e
      cases h1 : keyV d with
      | none => simp [h1] at e
      | some k =>
        cases h2 : keysV r with
        | none => simp [h1, h2] at e
        | some l =>
          simp only [h1, h2] at e
          cases e
          rw [keyV_ok (.inl a) h1, keysV_ok b h2]
          rfl
theorem keyT_ok {M : Addr → Prop} {H : Hp} {v : V} {d : PyData} {ks : List Key} (h : Dv0 M H v d) (e : keyT d = some ks) : ∃ b, v = .ref b ∧ H b = some (.tup (ks.map kV)) := by
  cases d with
  | tuple ds =>
    cases h.tupX with
    | atm q => cases q
    | @tup a xs _ nm rd lm q => exact ⟨a, rfl, by rw [rd, keysV_ok q e]⟩
  | _ => cases e
section
variable {κ : Type} [DecidableEq κ] {M : Addr → Prop} {H : Hp}
abbrev KVg (M : Addr → Prop) (H : Hp) : List (κ × V) → List (κ × PyData) → Prop := Paired (fun (q : κ × V) (p : κ × PyData) => q.1 = p.1 ∧ Dv M H q.2 p.2)
theorem kvg_get {k : κ} : ∀ {vs : List (κ × V)} {kvs : List (κ × PyData)}, KVg M H vs kvs → (valV vs k = none ∧ (kvs.find? fun kv => decide (kv.1 = k)).map (·.2) = none) ∨ ∃ v d, valV vs k = some v ∧ (kvs.find? fun kv => decide (kv.1 = k)).map (·.2) = some d ∧ Dv M H v d
  | _, _, .nil => .inl ⟨rfl, rfl⟩
  | _, _, .cons (b := p) (a := q) h t => by
    by_cases e : p.1 = k
    · refine .inr ⟨q.2, p.2, valV_pos (h.1.trans e), by simp [List.find?_cons, e], h.2⟩
    · have e' : ¬ q.1 = k := fun z => e (h.1.symm.trans z)
      rcases kvg_get (k := k) t with ⟨h1, h2⟩ | ⟨v, d, h1, h2, h3⟩
      · exact .inl ⟨by rw [valV_neg e']; exact h1, by simpa [List.find?_cons, e] using h2⟩
      · exact .inr ⟨v, d, by rw [valV_neg e']; exact h1, by simpa [List.find?_cons, e] using h2, h3⟩
theorem kvg_any {k : κ} : ∀ {vs : List (κ × V)} {kvs : List (κ × PyData)}, KVg M H vs kvs → (vs.any fun kv => decide (kv.1 = k)) = (kvs.any fun kv => decide (kv.1 = k))
  | _, _, .nil => rfl
  | _, _, .cons h t => by rw [List.any_cons, List.any_cons, kvg_any t, h.1]
theorem kvg_map {k : κ} {v : V} {d : PyData} (hv : Dv M H v d) : ∀ {vs : List (κ × V)} {kvs : List (κ × PyData)}, KVg M H vs kvs → KVg M H (vs.map fun kv => if kv.1 = k then (kv.1, v) else kv) (kvs.map fun kv => if kv.1 = k then (kv.1, d) else kv)
  | _, _, .nil => .nil
  | _, _, .cons (b := p) (a := q) h t => by
    rw [List.map_cons, List.map_cons]
    refine .cons ?_ (kvg_map hv t)
    by_cases e : p.1 = k
    · rw [if_pos e, if_pos (h.1.trans e)]; exact ⟨h.1, hv⟩
    · rw [if_neg e, if_neg (fun z => e (h.1.symm.trans z))]; exact h
theorem kvg_app : ∀ {vs ws : List (κ × V)} {kvs lvs : List (κ × PyData)}, KVg M H vs kvs → KVg M H ws lvs → KVg M H (vs ++ ws) (kvs ++ lvs)
  | _, _, _, _, .nil, h => h
  | _, _, _, _, .cons a t, h => .cons a (kvg_app t h)
end
theorem kvt_put {M : Addr → Prop} {H : Hp} {k : List Key} {v : V} {d : PyData} (hv : Dv M H v d) {vs : List (List Key × V)} {kvs : List (List Key × PyData)} (h : KVg M H vs kvs) : KVg M H (putK vs k v) (putTD kvs k d) := by
  unfold putK putTD
  rw [kvg_any h]
  split
  · exact kvg_map hv h
  · exact kvg_app h (.cons ⟨rfl, hv⟩ .nil)
/-- what a shared dict tells of a key -/
def lookW (o : WO) (d : PyData) : Option (Option PyData) := match o with
  | .dct kvs => (keyV d).map (getK kvs)
  | .dtt kvs => (keyT d).map (getT kvs)
  | .lst _ => none
def putW (o : WO) (d v : PyData) : Option WO := match o with
  | .dct kvs => if kvs.length < LIM then (keyV d).map fun k => .dct (putKD kvs k v) else none
  | .dtt kvs => if kvs.length < LIM then (keyT d).map fun k => .dtt (putTD kvs k v) else none
  | .lst _ => none
def isDW : WO → Bool
  | .lst _ => false
  | _ => true
theorem look_ok {M N : Addr → Prop} {H : Hp} {a : Addr} {o : WO} {y : V} {d : PyData} {r : Option PyData} (ho : ObIs M H a o) (hy : Dv0 N H y d) (h : lookW o d = some r) : ∃ q, DGet H a y q ∧ ((r = none ∧ q = none) ∨ ∃ z v, r = some z ∧ q = some v ∧ Dv M H v z) := by
  cases o with
  | lst _ => cases h
  | dct kvs =>
    obtain ⟨vs, hb, pr⟩ := ho
    unfold lookW at h
    cases hk : keyV d with
    | none => simp [hk] at h
    | some k =>
      simp only [hk, Option.map_some] at h
      cases h
      rw [keyV_ok hy hk]
      refine ⟨_, DGet.k hb, ?_⟩
      rcases kvg_get (k := k) pr with ⟨h1, h2⟩ | ⟨v, z, h1, h2, h3⟩
      · exact .inl ⟨h2, h1⟩
      · exact .inr ⟨z, v, h2, h1, h3⟩
  | dtt kvs =>
    obtain ⟨vs, hb, pr⟩ := ho
    unfold lookW at h
    cases hk : keyT d with
    | none => simp [hk] at h
    | some k =>
      simp only [hk, Option.map_some] at h
      cases h
      obtain ⟨b, rfl, eb⟩ := keyT_ok hy hk
      refine ⟨_, DGet.t hb eb, ?_⟩
      rcases kvg_get (k := k) pr with ⟨h1, h2⟩ | ⟨v, z, h1, h2, h3⟩
      · exact .inl ⟨h2, h1⟩
      · exact .inr ⟨z, v, h2, h1, h3⟩
theorem isD_ok {M : Addr → Prop} {H : Hp} {a : Addr} {o : WO} (ho : ObIs M H a o) (h : isDW o = true) : IsD H a := by
  cases o with
  | lst _ => cases h
  | dct kvs => obtain ⟨vs, hb, _⟩ := ho; exact .inl ⟨vs, .inl hb⟩
  | dtt kvs => obtain ⟨vs, hb, _⟩ := ho; exact .inr ⟨vs, .inl hb⟩
section
variable {X : Cx} {x y z : Expr} {es : List Expr} {pos : Pos} {f h g : X1} {t : T1}
/-! a new dict -/
def xNewD : X1 := fun _ w => some (.obj w.length, w ++ [.dct []])
def xNewT : X1 := fun _ w => some (.obj w.length, w ++ [.dtt []])
theorem d_newK : PE X (.Dict [] [] pos) (tD xNewD) := pe_dnewK.imp fun σ H Q q => by
  obtain ⟨P, α, e, w, r, w', R, hf, k⟩ := q
  cases hf
  intro p hp
  obtain ⟨R1, u1⟩ := R.objNew (o := .dct []) (u := .dK []) hp trivial fun M' H' _ _ e => ⟨[], e, .nil⟩
  refine k _ _ _ u1 R1 ⟨p, ?_, rfl⟩
  rw [← R.al, List.getElem?_append_right (Nat.le_refl _)]
  simp
theorem d_newT : PE X (.Dict [] [] pos) (tD xNewT) := pe_dnewT.imp fun σ H Q q => by
  obtain ⟨P, α, e, w, r, w', R, hf, k⟩ := q
  cases hf
  intro p hp
  obtain ⟨R1, u1⟩ := R.objNew (o := .dtt []) (u := .dT []) hp trivial fun M' H' _ _ e => ⟨[], e, .nil⟩
  refine k _ _ _ u1 R1 ⟨p, ?_, rfl⟩
  rw [← R.al, List.getElem?_append_right (Nat.le_refl _)]
  simp
/-! d[k], d.get(k), d.get(k, x), k in d -/
def xDGet (f h : X1) : X1 := fun e w => match f e w with
  | some (.obj n, w1) => match h e w1 with
    | some (q, w2) => match DL.valOf e w2 q, w2[n]? with
      | some k, some o => match lookW o k with
        | some (some z) => some (.v z, w2)
        | _ => none
      | _, _ => none
    | none => none
  | _ => none
theorem dget_step {σ : L2.St} {H : Hp} {Q : VK} (q : tD (xDGet f h) σ H Q) : tDGet (tD f) (tD h) σ H Q := by
  obtain ⟨P, α, e, w, r, w', R, hf, k⟩ := q
  unfold xDGet at hf
  split at hf
  · rename_i n w1 h1
    split at hf
    · rename_i rk w2 h2
      split at hf
      · rename_i kd o h3 h4
        split at hf
        · rename_i z h5
          cases hf
          refine ⟨P, α, e, w, _, w1, R, h1, fun v H1 α1 u1 R1 i1 => ⟨P, α1, e, w1, rk, _, R1, h2, fun y H2 α2 u2 R2 i2 => ?_⟩⟩
          obtain ⟨a, ha, rfl⟩ := i1
          obtain ⟨q, g, hq⟩ := look_ok (R2.ob n o a h4 (u2.get ha)) (i2.val R2 h3) h5
          rcases hq with ⟨z1, _⟩ | ⟨z1, v1, e1, e2, dv⟩
          · cases z1
          · cases e1
            exact ⟨a, v1, rfl, by rw [e2] at g; exact g, k v1 H2 α2 (u1.trans u2) R2 dv⟩
        · cases hf
      · cases hf
    · cases hf
  · cases hf
theorem d_dget (hu : X.A.units + 1 < cLine) (a : PE X x (tD f)) (b : PE X y (tD h)) (hs : NoSl y) : PE X (.Subscript x y pos) (tD (xDGet f h)) := (pe_dget hu a b hs).imp fun _ _ _ q => dget_step q
def xDGet2 (f h g : X1) : X1 := fun e w => match f e w with
  | some (.obj n, w1) => match h e w1 with
    | some (q, w2) => match g e w2 with
      | some (.v z, w3) => match w1[n]?, DL.valOf e w3 q, w3[n]? with
        | some o1, some k, some o => if isDW o1 then match lookW o k with
          | some r => some (.v (r.getD z), w3)
          | none => none
          else none
        | _, _, _ => none
      | _ => none
    | none => none
  | _ => none
theorem dget2_step {σ : L2.St} {H : Hp} {Q : VK} (q : tD (xDGet2 f h g) σ H Q) : tDGet2 (tD f) (tD h) (tD g) σ H Q := by
  obtain ⟨P, α, e, w, r, w', R, hf, k⟩ := q
  unfold xDGet2 at hf
  split at hf
  · rename_i n w1 h1
    split at hf
    · rename_i rk w2 h2
      split at hf
      · rename_i z w3 h3
        split at hf
        · rename_i o1 kd o h4 h5 h6
          split at hf
          · rename_i hD
            split at hf
            · rename_i r0 h7
              cases hf
              refine ⟨P, α, e, w, _, w1, R, h1, fun v H1 α1 u1 R1 i1 => ?_⟩
              obtain ⟨a, ha, rfl⟩ := i1
              refine ⟨a, rfl, isD_ok (R1.ob n o1 a h4 ha) hD, P, α1, e, w1, rk, w2, R1, h2, fun y H2 α2 u2 R2 i2 => ⟨P, α2, e, w2, _, _, R2, h3, fun zv H3 α3 u3 R3 i3 => ?_⟩⟩
              obtain ⟨q, gt, hq⟩ := look_ok (R3.ob n o a h6 (u3.get (u2.get ha))) ((i2.up u3).val R3 h5) h7
              refine ⟨q, gt, ?_⟩
              rcases hq with ⟨rfl, rfl⟩ | ⟨z1, v1, rfl, rfl, dv⟩
              · exact k zv H3 α3 (u1.trans (u2.trans u3)) R3 i3
              · exact k v1 H3 α3 (u1.trans (u2.trans u3)) R3 dv
            · cases hf
          · cases hf
        · cases hf
      · cases hf
    · cases hf
  · cases hf
theorem d_dget2 {apos : Pos} (hu : X.A.units + 1 < cLine) (a : PE X x (tD f)) (b : PE X y (tD h)) (c : PE X z (tD g)) (m : M2 X x "get" apos y z pos) : PE X (.Call (.Attribute x "get" apos) [y, z] [] pos) (tD (xDGet2 f h g)) := (pe_dget2 hu a b c m).imp fun _ _ _ q => dget2_step q
def xDGet1 (f h : X1) : X1 := fun e w => match f e w with
  | some (.obj n, w1) => match h e w1 with
    | some (q, w2) => match w1[n]?, DL.valOf e w2 q, w2[n]? with
      | some o1, some k, some o => if isDW o1 then match lookW o k with
        | some r => some (.v (r.getD .none), w2)
        | none => none
        else none
      | _, _, _ => none
    | none => none
  | _ => none
theorem dget1_step {σ : L2.St} {H : Hp} {Q : VK} (q : tD (xDGet1 f h) σ H Q) : tDGet1 (tD f) (tD h) σ H Q := by
  obtain ⟨P, α, e, w, r, w', R, hf, k⟩ := q
  unfold xDGet1 at hf
  split at hf
  · rename_i n w1 h1
    split at hf
    · rename_i rk w2 h2
      split at hf
      · rename_i o1 kd o h4 h5 h6
        split at hf
        · rename_i hD
          split at hf
          · rename_i r0 h7
            cases hf
            refine ⟨P, α, e, w, _, w1, R, h1, fun v H1 α1 u1 R1 i1 => ?_⟩
            obtain ⟨a, ha, rfl⟩ := i1
            refine ⟨a, rfl, isD_ok (R1.ob n o1 a h4 ha) hD, P, α1, e, w1, rk, _, R1, h2, fun y H2 α2 u2 R2 i2 => ?_⟩
            obtain ⟨q, gt, hq⟩ := look_ok (R2.ob n o a h6 (u2.get ha)) (i2.val R2 h5) h7
            refine ⟨q, gt, ?_⟩
            rcases hq with ⟨rfl, rfl⟩ | ⟨z1, v1, rfl, rfl, dv⟩
            · exact k .non H2 α2 (u1.trans u2) R2 (.atm .non)
            · exact k v1 H2 α2 (u1.trans u2) R2 dv
          · cases hf
        · cases hf
      · cases hf
    · cases hf
  · cases hf
theorem d_dget1 {apos : Pos} (hu : X.A.units + 1 < cLine) (a : PE X x (tD f)) (b : PE X y (tD h)) (m : M1 X x "get" apos y pos) : PE X (.Call (.Attribute x "get" apos) [y] [] pos) (tD (xDGet1 f h)) := (pe_dget1 hu a b m).imp fun _ _ _ q => dget1_step q
def xDIn (neg : Bool) (h f : X1) : X1 := fun e w => match h e w with
  | some (q, w1) => match f e w1 with
    | some (.obj n, w2) => match DL.valOf e w2 q, w2[n]? with
      | some k, some o => match lookW o k with
        | some r => some (.v (.bool (if neg then !r.isSome else r.isSome)), w2)
        | none => none
      | _, _ => none
    | _ => none
  | none => none
theorem din_step {neg : Bool} {σ : L2.St} {H : Hp} {Q : VK} (q : tD (xDIn neg h f) σ H Q) : (tD h) σ H fun y H1 => (tD f) σ H1 fun x H2 => ∃ a o, x = .ref a ∧ DGet H2 a y o ∧ Q (.bl (if neg then !o.isSome else o.isSome)) H2 := by
  obtain ⟨P, α, e, w, r, w', R, hf, k⟩ := q
  unfold xDIn at hf
  split at hf
  · rename_i rk w1 h1
    split at hf
    · rename_i n w2 h2
      split at hf
      · rename_i kd o h3 h4
        split at hf
        · rename_i r0 h5
          cases hf
          refine ⟨P, α, e, w, rk, w1, R, h1, fun y H1 α1 u1 R1 i1 => ⟨P, α1, e, w1, _, _, R1, h2, fun v H2 α2 u2 R2 i2 => ?_⟩⟩
          obtain ⟨a, ha, rfl⟩ := i2
          obtain ⟨q, gt, hq⟩ := look_ok (R2.ob n o a h4 ha) ((i1.up u2).val R2 h3) h5
          refine ⟨a, q, rfl, gt, ?_⟩
          have e1 : q.isSome = r0.isSome := by
            rcases hq with ⟨rfl, rfl⟩ | ⟨z1, v1, rfl, rfl, dv⟩ <;> rfl
          rw [e1]
          exact k _ H2 α2 (u1.trans u2) R2 (.atm (.bl _))
        · cases hf
      · cases hf
    · cases hf
  · cases hf
theorem d_din (hu : X.A.units + 1 < cLine) (a : PE X x (tD h)) (b : PE X y (tD f)) (hm : behindInMarks .In y = false) : PE X (.Compare x [.In] [y] pos) (tD (xDIn false h f)) := (pe_cmp (pc_din hu a b) hm).imp fun _ _ _ q => din_step q
theorem d_dnotin (hu : X.A.units + 1 < cLine) (a : PE X x (tD h)) (b : PE X y (tD f)) (hm : behindInMarks .NotIn y = false) : PE X (.Compare x [.NotIn] [y] pos) (tD (xDIn true h f)) := (pe_cmp (pc_dnotin hu a b) hm).imp fun _ _ _ q => din_step q
theorem dt_din (hu : X.A.units + 1 < cLine) (a : PE X x (tD h)) (b : PE X y (tD f)) (hm : behindInMarks .In y = false) : PT X (.Compare x [.In] [y] pos) (tDT (tBool (xDIn false h f))) := (pt_cmp (pc_din hu a b) hm).imp fun _ _ _ q => din_step (tBool_step q)
theorem dt_dnotin (hu : X.A.units + 1 < cLine) (a : PE X x (tD h)) (b : PE X y (tD f)) (hm : behindInMarks .NotIn y = false) : PT X (.Compare x [.NotIn] [y] pos) (tDT (tBool (xDIn true h f))) := (pt_cmp (pc_dnotin hu a b) hm).imp fun _ _ _ q => din_step (tBool_step q)
/-! d[k] = v -/
def sPutD (f h g : X1) : S1 := fun e w => match g e w with
  | some (.v d, w1) => match f e w1 with
    | some (.obj n, w2) => match h e w2 with
      | some (q, w3) => match DL.valOf e w3 q, w3[n]? with
        | some k, some o => match putW o k d with
          | some o' => some (.nx e (w3.set n o'))
          | none => none
        | _, _ => none
      | none => none
    | _ => none
  | _ => none
theorem putD_step {D : Ends} {σ : L2.St} {H : Hp} (q : tS (sPutD f h g) D σ H) : sDPut (tD f) (tD h) (tD g) D σ H := by
  obtain ⟨P, α, e, w, o, R, hf, kk⟩ := q
  unfold sPutD at hf
  split at hf
  · rename_i d w1 h1
    split at hf
    · rename_i n w2 h2
      split at hf
      · rename_i rk w3 h3
        split at hf
        · rename_i kd o1 h4 h5
          cases h6 : putW o1 kd d with
          | none => simp [h6] at hf
          | some o2 =>
            simp only [h6] at hf
            cases hf
            refine ⟨P, α, e, w, _, w1, R, h1, fun v H1 α1 u1 R1 i1 => ⟨P, α1, e, w1, _, w2, R1, h2, fun x H2 α2 u2 R2 i2 => ⟨P, α2, e, w2, rk, w3, R2, h3, fun y H3 α3 u3 R3 i3 => ?_⟩⟩⟩
            obtain ⟨a, ha, rfl⟩ := i2
            have ha3 := u3.get ha
            have iv := (show IsR P α1 e σ H1 v (.v d) from i1).up (u2.trans u3)
            have hy := i3.val R3 h4
            cases o1 with
            | lst _ => cases h6
            | dct kvs =>
              obtain ⟨vs, hb, pr⟩ := R3.ob n _ a h5 ha3
              unfold putW at h6
              by_cases hl : kvs.length < LIM
              case neg => simp [hl] at h6
              cases hk : keyV kd with
              | none => simp [hk] at h6
              | some key =>
                simp only [hl, hk, if_true, Option.map_some] at h6
                cases h6
                rw [keyV_ok hy hk]
                refine ⟨a, _, rfl, DPut.k (k := key) hb (by rw [kvs_len pr]; exact lim_lt hl), ?_⟩
                have R4 := R3.objSet (o := .dct (putKD kvs key d)) (u := .dK (putK vs key v)) ha3 trivial fun H' nm h => ⟨_, h, kvs_put (Dv.up (show Dv _ H3 v d from iv) nm fun c m => .inl m) (pmapQ pr fun p q z => ⟨z.1, z.2.up nm fun c m => .inl m⟩)⟩
                exact kk σ _ α3 ((u1.trans (u2.trans u3)).s.trans (obj_up (UpE.refl α3 H3) (List.mem_of_getElem? ha3))) R4
            | dtt kvs =>
              obtain ⟨vs, hb, pr⟩ := R3.ob n _ a h5 ha3
              unfold putW at h6
              by_cases hl : kvs.length < LIM
              case neg => simp [hl] at h6
              cases hk : keyT kd with
              | none => simp [hk] at h6
              | some key =>
                simp only [hl, hk, if_true, Option.map_some] at h6
                cases h6
                obtain ⟨b, rfl, eb⟩ := keyT_ok hy hk
                have hlen : vs.length = kvs.length := Paired.len pr
                refine ⟨a, _, rfl, DPut.t (k := key) hb eb (by rw [hlen]; exact lim_lt hl), ?_⟩
                have R4 := R3.objSet (o := .dtt (putTD kvs key d)) (u := .dT (putK vs key v)) ha3 trivial fun H' nm h => ⟨_, h, kvt_put (Dv.up (show Dv _ H3 v d from iv) nm fun c m => .inl m) (pmapQ pr fun p q z => ⟨z.1, z.2.up nm fun c m => .inl m⟩)⟩
                exact kk σ _ α3 ((u1.trans (u2.trans u3)).s.trans (obj_up (UpE.refl α3 H3) (List.mem_of_getElem? ha3))) R4
        · cases hf
      · cases hf
    · cases hf
  · cases hf
theorem ds_putD {pos' : Pos} (hu : X.A.units + 1 < cLine) (a : PE X x (tD f)) (b : PE X y (tD h)) (c : PE X z (tD g)) (hs : swapsWith z (some (.Subscript x y pos')) pos.line X.env = pure false := by rfl) : PS X (.Assign [.Subscript x y pos'] z pos) (tS (sPutD f h g)) := (ps_dput hu a b c hs).imp fun _ _ _ q => putD_step q
end
end DL
/-! ### sorted(d), d a dict -/
namespace DL
open PySem PySem.Spec PyProof.Rows L2 PySem.W
section
variable {X : Cx}
/-- list.sort on a list that was laid last -/
theorem sort_part {pins : List (Addr × Obj)} {σ : L2.St} {H : Hp} {s : Shared} {A : Around} {E : Value → Shared → Prop} {its : List Value} {xs : List V} {ds : List PyData} {P : PySem.Fin → Shared → Prop} (I : Inv X pins σ H s) (hu : A.units + 70 < cLine) (rv : Vals xs its) (dv : DvA (fun _ => False) H xs ds) (hlim : ds.length ≤ LIM) (ok : sortOk ds = true)
    (k : ∀ (ys : List V) (s3 : Shared), Inv X pins σ (upd H s.heap.objs.size (.lst ys)) s3 → (∀ M, DvA M H xs ds → DvA M H ys (sortD ds)) → P (.done (.ret .none)) s3) :
    wpAny (model X.prog X.w) A (Builtin.«list.sort» ⟨[.ref s.heap.objs.size], []⟩) P E { s with heap := s.heap.push (seqObj "list" its.toArray 0) } := by
  generalize hL : s.heap.push (seqObj "list" its.toArray 0) = hp
  have hat : hp.get? s.heap.objs.size = some (seqObj "list" its.toArray 0) := by rw [← hL]; exact Heap.get?_push_size _ rfl
  have old : ∀ b o, s.heap.get? b = some o → hp.get? b = some o := fun b o e => by rw [← hL]; exact Heap.get?_push_of_some _ e
  have hlen := dv.length
  have hli : its.length = ds.length := by rw [← rv.length]; exact hlen
  unfold sortOk at ok
  simp only [Bool.and_eq_true, List.all_eq_true, decide_eq_true_eq] at ok
  obtain ⟨ok1, ok2⟩ := ok
  have hal : AllAlike ds := fun d hd d' hd' => (ok1 d hd).2 d' hd'
  have hnd : ∀ d ∈ ds, noDict d = true := fun d hd => (ok1 d hd).1.1
  have hdp : ∀ d ∈ ds, A.units + d.depth < cLine := fun d hd => by
    have z : d.depth ≤ 64 := (ok1 d hd).1.2
    omega
  generalize hS : sortingHeap hp s.heap.objs.size its = hs
  have keep : ∀ b o, s.heap.get? b = some o → hs.get? b = some o := fun b o e => by
    rw [← hS]
    exact sortingHeap_old (Nat.ne_of_lt (Heap.lt_size e)) (old b o e)
  have er : EachIs (fun v d => ∃ as, Reads hs v d as) its ds := (sort_reads I rv dv hnd).mono fun _ _ ⟨as, r⟩ => ⟨as, PyProof.Rows.Reads.keeps keep r⟩
  have e := each_vals rv dv
  have S : SortsAt X.prog X.w A { s with heap := hs } (dataKind hs ds) its := by
    simp only [Bool.or_eq_true, Bool.and_eq_true, List.all_eq_true] at ok2
    rcases ok2 with (h1 | h1) | ⟨h1, h2⟩
    · refine SortsAt.data (s := { s with heap := hs }) er hal (.inl fun d hd => ?_) hdp
      have z := h1 d hd
      cases d with
      | tuple r => cases r with
        | nil => cases z
        | cons x r => exact ⟨x, r, rfl⟩
      | _ => cases z
    · refine SortsAt.data (s := { s with heap := hs }) er hal (.inr fun d hd => ?_) hdp
      have z := h1 d hd
      exact ⟨fun e => by subst e; simp [isNone] at z, fun xs e => by subst e; simp [tupB] at z⟩
    · cases ds with
      | nil => cases h2
      | cons d0 dr =>
        cases d0 with
        | tuple r0 => cases r0 with
          | nil => exact sortsAt_tup0 (s := { s with heap := hs }) er hal (fun d hd => by
              have z := h1 d hd
              cases d with
              | tuple r => exact ⟨r, rfl⟩
              | _ => cases z) hdp
          | cons x r => cases h2
        | _ => cases h2
  subst hS
  refine list_sort_vals (s := { s with heap := hp }) hat S (by rw [hli]; exact lim_le hlim) ?_
  have hm : ds.map (fun d => d) = ds := List.map_id' ds
  have es := sortVals_data (enc := fun d : PyData => d) false e er (by rw [hm]; exact hal)
  rw [hm] at es
  obtain ⟨ys, hv, hpp⟩ := vals_each (P := fun x d => x ∈ xs ∧ ∀ M, DvA M H xs ds → Dv M H x d) es
  generalize (sortVals (dataKind (sortingHeap hp s.heap.objs.size its) ds) false its its) = out at hv ⊢
  obtain ⟨ep, he⟩ := sortedHeap_at (vs := its) (out := out.toArray) hat
  have hly : ys.length = ds.length := by
    rw [Paired.len hpp]
    exact List.length_mergeSort ..
  refine k ys _ (I.laid (t' := s.toks) (fun b o q => ?_) (Nat.le_refl _) ⟨by rw [hly]; exact lim_le hlim, _, ep, hv, he⟩) fun M h => paired_dva (pmapQ hpp fun x d z => z.2 M h)
  have hb : b < s.heap.objs.size := Heap.lt_size q
  rw [sortedHeap_old (Nat.ne_of_lt hb) (by rw [← hL, size_push']; exact Nat.lt_succ_of_lt hb)]
  exact old b o q
def keyTup (k : List Key) : PyData := .tuple (k.map keyD)
def rSortT : List V → Hp → VK → Prop := fun vs H Q => ∃ a kvs, vs = [V.ref a] ∧ H a = some (.dT kvs) ∧ kvs.length ≤ LIM ∧ (∀ p ∈ kvs, p.1.length ≤ LIM) ∧ sortOk (kvs.map fun p => keyTup p.1) = true ∧
  ∀ ys p, (∀ M : Addr → Prop, (∀ b, M b → Mut (H b)) → DvA M H ys (sortD (kvs.map fun p => keyTup p.1))) → H p = none → Q (.ref p) (upd H p (.lst ys))
theorem dva_keys {M : Addr → Prop} {H : Hp} : ∀ k : List Key, DvA M H (k.map kV) (k.map keyD)
  | [] => .nil
  | .inl i :: r => .cons (.atm (.int i)) (dva_keys r)
  | .inr x :: r => .cons (.atm (.str x)) (dva_keys r)
theorem keys_dva {M : Addr → Prop} {H : Hp} (hm : ∀ b, M b → Mut (H b)) : ∀ {kvs : List (List Key × V)} {ks : List (List Key × Addr × Value)}, KT H kvs ks → (∀ p ∈ kvs, p.1.length ≤ LIM) → DvA M H ((ks.map fun x => x.2.1).map V.ref) (kvs.map fun p => keyTup p.1)
  | _, _, .nil, _ => .nil
  | _, _, .cons h t, hl => .cons (.tup (fun m => by
      have := hm _ m
      rw [h.2.1] at this
      exact this) h.2.1 (by rw [List.length_map]; exact hl _ (List.mem_cons_self ..)) (dva_keys _)) (keys_dva hm t fun p hp => hl p (List.mem_cons_of_mem _ hp))
theorem call_sortedT (hc : X.calm = true) (hu : X.A.units + 100 < cLine) : CallR X (.builtin "sorted") rSortT := by
  intro pins s σ H vs us Q I r h
  obtain ⟨a, kvs, rfl, hd, hlim, hkl, ok, q⟩ := h
  rw [Vals.ref1 r]
  obtain ⟨z, hs, ks, pr, o, es, ep, ho, hx, hdt, he, hn⟩ := (show ObjOk X.prog X.w H s.heap a (.dT kvs) from (show Rd H a (.dT kvs) from .inl hd).ok I.hok)
  have l1 : es.size = ks.length := size_of_entries he
  have l2 : kvs.length = ks.length := Paired.length pr
  have lz : kvs.length ≤ sizeLine := z
  refine Calls.call_function_entry PyProof.Rows.kind_sorted PyProof.Rows.plain_sorted PyProof.Rows.entry_sorted (PyProof.Rows.args_sorted1 _) ?_
  unfold Builtin.«sorted»
  refine wpAny_bind (m := checkCount "sorted" 1 1 _) (wpAny_pure ?_)
  refine wpAny_bind (PySem.W.kdu_collect (A := X.A.in1) (kdl_raw hs hx hdt) (I.ok.hd hc) ho (by omega) fun h' tk acc kp it => ?_)
  have ea : acc.toList = (ks.map fun x => x.2.1).map Value.ref := by
    have hl : acc.toList.length = ks.length := by rw [Array.length_toList, it.1]; exact l1
    refine List.ext_getElem (by rw [hl, List.length_map, List.length_map]) fun j j1 j2 => ?_
    have jk : j < ks.length := by rw [← hl]; exact j1
    obtain ⟨en, hen, hv⟩ := it.2 j acc.toList[j] (by rw [← Array.getElem?_toList]; exact List.getElem?_eq_getElem j1)
    have qe := entry_at he j
    rw [hen, List.getElem?_eq_getElem jk] at qe
    have e2 : en = entryOfKey (tupleKind (mixKind X.prog X.w)) ks[j] := Option.some.inj qe
    rw [hv, e2]
    simp only [List.getElem_map]
    rfl
  have I1 : Inv X pins σ H { s with heap := h', toks := tk } := I.kept kp
  have rv : Vals ((ks.map fun x => x.2.1).map V.ref) acc.toList := by rw [ea]; exact vals_refs rfl
  have hal : acc.toList.length ≤ sizeLine := by rw [ea, List.length_map, List.length_map]; omega
  refine wpAny_bind (wpAny_newList ?_ hal)
  have hoL : (h'.push (seqObj "list" acc.toList.toArray 0)).get? h'.objs.size = some (seqObj "list" acc.toList.toArray 0) := Heap.get?_push_size _ rfl
  have dv := fun (M : Addr → Prop) hm => keys_dva (M := M) (H := H) hm pr hkl
  refine wpAny_bind (wpAny_holding (wpAny_call_entry PyProof.Rows.slot_list_sort ⟨_, hoL, rfl⟩ PyProof.Rows.entry_list_sort
    (sort_part (s := { s with heap := h', toks := tk }) I1 (by show X.A.units + 1 + 1 + 70 < cLine; omega) rv (dv (fun _ => False) fun b m => m.elim) (by rw [List.length_map]; exact hlim) ok fun ys s3 I3 hy => ⟨_, rfl, ?_⟩) (PyProof.Rows.args_list_sort _)))
  exact wpAny_pure ⟨_, rfl, .ref h'.objs.size, _, I3, rfl, q ys _ (fun M hm => hy M (dv M hm)) (I1.hok.fresh (Nat.le_refl _))⟩
/-- sorted(d) -/
def xSortK (f : X1) : X1 := fun e w => match f e w with
  | some (.obj n, w1) => match w1[n]? with
    | some (.dtt kvs) => if kvs.length ≤ LIM ∧ (∀ p ∈ kvs, p.1.length ≤ LIM) ∧ sortOk (kvs.map fun p => keyTup p.1) = true then some (.v (.list (sortD (kvs.map fun p => keyTup p.1))), w1) else none
    | _ => none
  | _ => none
theorem kvg_keys {κ : Type} {M : Addr → Prop} {H : Hp} : ∀ {vs : List (κ × V)} {kvs : List (κ × PyData)}, KVg M H vs kvs → vs.map (·.1) = kvs.map (·.1)
  | _, _, .nil => rfl
  | _, _, .cons h t => by rw [List.map_cons, List.map_cons, h.1, kvg_keys t]
variable {x : Expr} {pos : Pos} {f : X1} {fs : A1}
theorem d_sortK {p : Pos} (hc : X.calm = true) (hu : X.A.units + 100 < cLine) (hg : Gl X "sorted") (hm : X.mg "sorted" = none) (ha : PE X x (tD f)) (he : starEach [x] X.env = (false, eval x X.env) :: starEach [] X.env := by rfl) (hpl : (backTo pos (starEach [] X.env)).any (·.1) = false := by rfl) :
    PE X (.Call (.Name "sorted" p) [x] [] pos) (tD (xSortK f)) := (pe_callB (call_sortedT hc hu) hg hm boot_sorted_ (pa_cons ha pa_nil he) (by decide) (by decide) he hpl).imp fun σ H Q q => by
  obtain ⟨P, α, e, w, r, w', R, hf, k⟩ := q
  unfold xSortK at hf
  split at hf
  · rename_i n w1 h1
    split at hf
    · rename_i kvs h2
      split at hf
      · rename_i hok
        cases hf
        refine ⟨P, α, e, w, _, w', R, h1, fun v H1 α1 u1 R1 i1 => ?_⟩
        obtain ⟨a, ha, rfl⟩ := i1
        obtain ⟨vs, hb, pr⟩ := R1.ob n _ a h2 ha
        have ek := kvg_keys pr
        have em : (vs.map fun p => keyTup p.1) = kvs.map fun p => keyTup p.1 := by
          have e1 : (vs.map fun p => keyTup p.1) = (vs.map (·.1)).map keyTup := by rw [List.map_map]; rfl
          rw [e1, ek, List.map_map]
          rfl
        have hlv : vs.length = kvs.length := Paired.len pr
        refine ⟨a, vs, rfl, hb, by rw [hlv]; exact hok.1, fun p hp => ?_, by rw [em]; exact hok.2.2, fun ys p hy hp => ?_⟩
        · have : p.1 ∈ kvs.map (·.1) := by rw [← ek]; exact List.mem_map_of_mem hp
          obtain ⟨q, hq, e⟩ := List.mem_map.mp this
          rw [← e]
          exact hok.2.1 q hq
        · have dv := hy _ R1.mut
          rw [em] at dv
          have sm : Same H1 (upd H1 p (.lst ys)) := same_upd hp
          refine k _ _ α1 (u1.trans (.of_same sm)) (R1.same sm) (new_lst R1.mut hp dv ?_)
          show (sortD _).length ≤ LIM
          unfold sortD
          rw [List.length_mergeSort, List.length_map]
          exact hok.1
      · cases hf
    · cases hf
  · cases hf
end
end DL
/-! ### a, b, c = x, y, z -/
namespace DL
open PySem PySem.Spec PyProof.Rows L2 PySem.W
section
variable {X : Cx} {x y z : Expr} {pos : Pos} {fs : A1}
def sPar3 (i j l : Nat) (fs : A1) : S1 := fun e w => match fs e w with
  | some ([r, r', r''], w1) => match slotOf r, slotOf r', slotOf r'' with
    | some z, some z', some z'' => some (.nx (((e.set i (some z)).set j (some z')).set l (some z'')) w1)
    | _, _, _ => none
  | _ => none
theorem ds_par3 {i j l : Nat} {n m o : Str} {px py pz pt : Pos} {kt k2 pt2} (hc : X.calm = true) (hN : X.N.Nodup) (hi : X.N[i]? = some n) (hj : X.N[j]? = some m) (hl : X.N[l]? = some o) (hij : i ≠ j) (hil : i ≠ l) (hjl : j ≠ l)
    (hx : X.env.scope.names.lookup n = some .local) (hy : X.env.scope.names.lookup m = some .local) (hz : X.env.scope.names.lookup o = some .local) (ha : PA X [x, y, z] (tDA fs))
    (hw : swappedStores [.Tuple [.Name n px, .Name m py, .Name o pz] kt pt] (.Tuple [x, y, z] k2 pt2) X.env = pure (some [n, m, o]))
    (hs : swapsWithSole [.Tuple [.Name n px, .Name m py, .Name o pz] kt pt] (.Tuple [x, y, z] k2 pt2) pos.line X.env = pure false := by rfl) :
    PS X (.Assign [.Tuple [.Name n px, .Name m py, .Name o pz] kt pt] (.Tuple [x, y, z] k2 pt2) pos) (tS (sPar3 i j l fs)) := (ps_par3 hc hN hi hj hl hij hil hjl hx hy hz ha hw hs).imp fun D σ H q => by
  obtain ⟨P, α, e, w, oo, R, hf, k⟩ := q
  unfold sPar3 at hf
  split at hf
  · rename_i r r' r'' w1 h1
    split at hf
    · rename_i z z' z'' hz hz' hz''
      cases hf
      refine ⟨P, α, e, w, _, w1, R, h1, fun vs H1 α1 u1 R1 i1 => ?_⟩
      cases i1 with
      | @cons v _ vr _ a b =>
        cases b with
        | @cons v' _ _ _ b b2 =>
          cases b2 with
          | @cons v'' _ _ _ c b3 =>
            cases b3 with
            | nil =>
              obtain ⟨a1, na⟩ := slot_is hz a
              obtain ⟨b1, nb⟩ := slot_is hz' b
              obtain ⟨c1, nc⟩ := slot_is hz'' c
              have R2 := R1.put (i := i) (x := z) (v := v) na a1
              have b' : SvIs (Msk P α1 (e.set i (some z)) (σ.set i (some v))) α1 H1 v' z' := SvIs.less b1 fun c m => Msk.le (fun c => own_put na) m
              have R3 := R2.put (i := j) (x := z') (v := v') nb b'
              have c' : SvIs (Msk P α1 (e.set i (some z)) (σ.set i (some v))) α1 H1 v'' z'' := SvIs.less c1 fun c m => Msk.le (fun c => own_put na) m
              have c'' : SvIs (Msk P α1 ((e.set i (some z)).set j (some z')) ((σ.set i (some v)).set j (some v'))) α1 H1 v'' z'' := SvIs.less c' fun c m => Msk.le (fun c => own_put nb) m
              exact ⟨v, v', v'', rfl, k _ H1 α1 (((UpS.put na u1).trans (UpS.put nb (UpE.refl α1 H1))).trans (UpS.put nc (UpE.refl α1 H1))) (R3.put (i := l) (x := z'') (v := v'') nc c'')⟩
    · cases hf
  · cases hf
end
end DL
/-! ### comprehensions that gather into something: one core for them all -/
namespace DL
open PySem PySem.Spec PyProof.Rows L2 PySem.W
/-- what is wanted of the slots and the heap where an item is put; what the machine does there -/
abbrev TB := L2.St → Hp → (Hp → Prop) → Addr → Prop
abbrev MB := Env → Addr → (Shared → Prop) → (Value → Shared → Prop) → Shared → Prop
def tGa (o0 : Addr → HO) (wi : TI) (g : TG) (tt : TT) (tb : TB) (vs : List Nat) : TE := fun σ H Q => wi σ H fun J H1 => ∀ D, H1 D = none →
  ∃ W : Nat → Nat → Hp → Prop, (∃ m, W 0 m (upd H1 D (o0 D))) ∧ ∀ i m H, W i m H → (J.stop i H ∧ Q (.ref D) H) ∨
    (J.go i H ∧ ∃ Nx : Hp → Prop, (∀ H', Nx H' → ∃ m', m' < m ∧ W (i + 1) m' H') ∧
      ∀ x H', J.yld i H x H' → g x (wipe σ vs) H' fun σ2 H2 => wipe σ2 vs = wipe σ vs ∧ tt σ2 H2 fun b H3 => if b = true then tb σ2 H3 Nx D else Nx H3)
structure Ga (X : Cx) (cE : Expr) (nw : Sem Value) (tg iter : Expr) (ifs : List Expr) (o0 : Addr → HO) (mb : MB) : Prop where
  cl : clausesOf cE = [⟨tg, iter, ifs, 0⟩]
  new : ∀ {pins : List (Addr × Obj)} {σ : L2.St} {H : Hp} {s : Shared} {A : Around} {E : Value → Shared → Prop} {Q : Value → Shared → Prop}, Inv X pins σ H s →
    (∀ ob : Obj, Inv X pins σ (upd H s.heap.objs.size (o0 s.heap.objs.size)) { s with heap := s.heap.push ob } → Q (.ref s.heap.objs.size) { s with heap := s.heap.push ob }) → wpAny (model X.prog X.w) A nw Q E s
  loop : ∀ {R : Result → Shared → Prop} {s : Shared} {it : Value} {D : Addr} {env : Env} (I : Nat → Shared → Prop),
    (∀ n s, I n s → wpAny (model X.prog X.w) X.A (pyNext it) (fun r s1 => match r with
      | none => R (.ok .next) s1
      | some v => wpAny (model X.prog X.w) X.A (letOwnedTupleGo tg it v) (fun _ s2 => wpAny (model X.prog X.w) X.A (assign tg env v) (fun _ s3 =>
          wpAny (model X.prog X.w) X.A (forIn ifs true fun c r => if r = true then do let ok ← isTrue c env (eval c env); pure (ForInStep.yield ok) else pure (ForInStep.yield r)) (fun ok s4 =>
            if ok = true then mb env D (fun s5 => ∃ m, m < n ∧ I m s5) (notedBy (model X.prog X.w) X.A env fun e s' => R (.error e) s') s4 else ∃ m, m < n ∧ I m s4)
          (notedBy (model X.prog X.w) X.A env fun e s' => R (.error e) s') s3) (notedBy (model X.prog X.w) X.A env fun e s' => R (.error e) s') s2) (notedBy (model X.prog X.w) X.A env fun e s' => R (.error e) s') s1)
      (notedBy (model X.prog X.w) X.A env fun e s' => R (.error e) s') s) →
    ∀ n, I n s → codeAny (model X.prog X.w) X.A (.compLoop cE 0 it (.ref D) env) R s
  start : ∀ {R : Result → Shared → Prop} {s : Shared} {it acc : Value} {env : Env}, codeAny (model X.prog X.w) X.A (.compLoop cE 0 it acc env) R s →
    wpAny (model X.prog X.w) X.A (pyIter it) (fun it' s' => codeAny (model X.prog X.w) X.A (.compLoop cE 0 it' acc env) R s') (notedBy (model X.prog X.w) X.A env fun x s' => R (.error x) s') s →
    codeAny (model X.prog X.w) X.A (.compStart cE 0 it acc env) R s
/-- what is done with an item runs, in a block's context -/
structure RunB (X : Cx) (mb : MB) (tb : TB) : Prop where
  run : ∀ {pins : List (Addr × Obj)} {σ : L2.St} {H : Hp} {s : Shared} {Nx : Hp → Prop} {D : Addr} {post : Shared → Prop} {E : Value → Shared → Prop}, Inv X pins σ H s → tb σ H Nx D →
  (∀ s' H', Inv X pins σ H' s' → Nx H' → post s') → mb X.env D post E s
section
variable {X : Cx}
theorem ga_core {cE tg iter : Expr} {nw : Sem Value} {ifs : List Expr} {o0 : Addr → HO} {mb : MB} {tb : TB} {scope : Scope} {own : List (Str × Nat)} {wi : TI} {g : TG} {tt : TT} (Gt : Ga X cE nw tg iter ifs o0 mb) (hc : X.calm = true) (hN : X.N.Nodup) (hi : PI X tg iter wi) (ok : BlkOk X.N X.env.scope scope own)
    (hg : ∀ (s : Shared) (H : Hp) (C : Addr) (cl : List (Str × Addr)) (fp : List Addr), PG (X.blk s H scope (compEnvC scope cl C X.env) fp) tg g)
    (ht : ∀ (s : Shared) (H : Hp) (C : Addr) (cl : List (Str × Addr)) (fp : List Addr), PTs (X.blk s H scope (compEnvC scope cl C X.env) fp) ifs tt)
    (hb : ∀ (s : Shared) (H : Hp) (C : Addr) (cl : List (Str × Addr)) (fp : List Addr), RunB (X.blk s H scope (compEnvC scope cl C X.env) fp) mb tb)
    (hs : ∀ x, foldedSetIterable iter X.env x = pure x) {pos' : Pos} {pins : List (Addr × Obj)} {s : Shared} {σ : L2.St} {H : Hp} {Q : VK} {use : Option (Value → Sem Unit)} {Qf : Value → Shared → Prop} (I : Inv X pins σ H s) (h : tGa o0 wi g tt tb (own.map (·.2)) σ H Q)
    (fin : ∀ D C s' m H', Inv X pins σ H' s' → Q (.ref D) H' → s'.heap.Ns C m → FpOk X pins H' C → compPost (model X.prog X.w) X.A X.xe use Qf (.ref D) C (.ok .next) s') :
    wpAny (model X.prog X.w) X.A (comprehension cE scope X.env pos' nw false (eval iter X.env) use) Qf X.xe s := by
  have free : ∀ y ∈ scope.names, y.2 = .free → ∃ c, X.env.cells.lookup y.1 = some c := fun y hy e => (ok.free y hy e).elim (fun k => I.ok.has _ (.inl k)) fun k => I.ok.has _ (.inr k)
  refine wpAny_comprehension_free (g := ⟨tg, iter, ifs, 0⟩) (gs := []) Gt.cl hs (closure_ok free) ok.kind (fun y hy e => (ok.uniq y hy).trans (congrArg some e)) ?_
  refine thn (hi.run pins s σ H _ I h) fun _ _ wv => thn wv fun _ sA wA => ?_
  obtain ⟨it, fp, tn, J, HA, rfl, IA, src, stA, fA, q⟩ := wA
  refine Gt.new IA fun ob IB => newEnv_comp ?_
  have hD := IA.hok.fresh (Nat.le_refl sA.heap.objs.size)
  obtain ⟨W, ⟨m0, w0⟩, turn⟩ := q _ hD
  generalize eB : ({ sA with heap := sA.heap.push ob } : Shared) = sB at IB
  have sizeB : sB.heap.objs.size = sA.heap.objs.size + 1 := by rw [← eB]; exact Heap.size_push ..
  generalize dA : sA.heap.objs.size = D at *
  have keepB : ∀ b o, sA.heap.get? b = some o → sB.heap.get? b = some o := fun b o e => by rw [← eB]; exact Heap.get?_push_of_some _ e
  have old : ∀ b ∈ fp, b < D := fun b hb => by
    obtain ⟨o, e, _⟩ := src.obj _ _ stA b hb
    exact dA ▸ Heap.lt_size e
  have fB : ∀ b ∈ fp, FpOk X pins (upd HA D (o0 D)) b ∧ b < sB.heap.objs.size := fun b hb =>
    ⟨⟨(upd_ne (Nat.ne_of_lt (old b hb))).trans (fA b hb).1, (fA b hb).2⟩, by rw [sizeB]; exact Nat.lt_succ_of_lt (old b hb)⟩
  generalize hHB : upd HA D (o0 D) = HB at IB fB w0
  have stB : tn 0 sB.heap := src.keep _ _ _ stA fun b _ o e => keepB b o e
  have IC := block_start IB ok hN fB
  have blkG := hg sB HB sB.heap.objs.size (cellsFrom (sB.heap.objs.size + 1) scope.names (cloFrom X.env.cells scope.names [])) fp
  have blkT := ht sB HB sB.heap.objs.size (cellsFrom (sB.heap.objs.size + 1) scope.names (cloFrom X.env.cells scope.names [])) fp
  have blkB := hb sB HB sB.heap.objs.size (cellsFrom (sB.heap.objs.size + 1) scope.names (cloFrom X.env.cells scope.names [])) fp
  show codeAny _ _ (.compStart cE 0 (.ref it) (.ref D) (compEnvC scope (cellsFrom (sB.heap.objs.size + 1) scope.names (cloFrom X.env.cells scope.names [])) sB.heap.objs.size X.env)) (compPost (model X.prog X.w) X.A X.xe use Qf (.ref D) sB.heap.objs.size) { sB with heap := pushCells (sB.heap.push { cls := .type "dict", data := .dict #[] }) scope.names }
  generalize eE : compEnvC scope (cellsFrom (sB.heap.objs.size + 1) scope.names (cloFrom X.env.cells scope.names [])) sB.heap.objs.size X.env = en at IC blkG blkT blkB ⊢
  have lE : en.locals = sB.heap.objs.size := by rw [← eE]; rfl
  generalize eC : ({ sB with heap := pushCells (sB.heap.push { cls := .type "dict", data := .dict #[] }) scope.names } : Shared) = sC at IC ⊢
  have stC : tn 0 sC.heap := src.keep _ _ _ stB fun b _ o e => by rw [← eC]; exact pushCells_keeps _ _ _ _ (Heap.get?_push_of_some _ e)
  let Bx := X.blk sB HB scope en fp
  have stay : ∀ {σ' : L2.St} {H' : Hp} {s' : Shared}, Inv Bx [] σ' H' s' → (∀ b ∈ fp, H' b = none) → ∀ b ∈ fp, FpOk Bx [] H' b := fun {_ H' _} J' nn b m =>
    ⟨nn b m, (J'.ok.exf b m).1, J'.ok.exfs b m, .inl m, fun x c e => (J'.ok.exf b m).2 x c e, fun p hp => by
      have hp : p ∈ ([] : List (Addr × Obj)) ++ [] := hp
      simp at hp⟩
  let Tn : Nat → Shared → Prop := fun n s' => ∃ i H', Inv Bx [] (wipe σ (own.map (·.2))) H' s' ∧ tn i s'.heap ∧ (∀ b ∈ fp, H' b = none) ∧ W i n H'
  have goL := Gt.loop (R := compPost (model X.prog X.w) X.A X.xe use Qf (.ref D) sB.heap.objs.size) (it := .ref it) (D := D) (env := en) Tn ?turns m0 ⟨0, HB, IC, stC, fun b m => (fB b m).1.1, w0⟩
  · exact Gt.start goL (src.self X.A 0 _ _ _ stC goL)
  rintro n s5 ⟨i, H5, I5, st5, n5, w5⟩
  rcases turn i n H5 w5 with ⟨stop, fine⟩ | ⟨go, Nx, less, item⟩
  · refine thnF (src.done Bx rfl rfl rfl hc i [] s5 _ H5 (fun _ _ => False) I5 (stay I5 n5) st5 stop) fun r s6 hr => ?_
    obtain ⟨rfl, I6⟩ := hr
    have back : Inv X pins σ H5 s6 := IB.call' (ch := fp) I6.os I6.base I6.hok I6.bare fun b m =>
      have z := (fB b m).1.2
      ⟨z.2.2.1, z.1, z.2.2.2.1, z.2.2.2.2⟩
    have none5 : H5 sB.heap.objs.size = none := lE ▸ I6.free
    obtain ⟨mm, hm, _⟩ := I6.loc
    have hm : s6.heap.Ns en.locals mm := hm
    exact fin D sB.heap.objs.size s6 mm H5 back fine (lE ▸ hm) (IB.fpOk (Nat.le_refl _) none5)
  · refine thnF (src.item Bx rfl rfl rfl hc i [] s5 _ H5 (fun _ _ => False) I5 (stay I5 n5) st5 go) fun r s6 hr => ?_
    obtain ⟨u, rfl, h6⟩ := hr
    refine thnF h6 fun _ s7 w7 => ?_
    obtain ⟨x, H7, I7, r7, y7, st7, n7⟩ := w7
    refine thnF (blkG.run _ s7 _ H7 x u _ (I7.pinned (stay I7 n7) (src.obj _ _ st7)) r7 (item x H7 y7)) fun _ s8 w8 => ?_
    obtain ⟨σ8, H8, I8, e8, q8⟩ := w8
    refine thnF (blkT.run _ s8 σ8 H8 _ I8 q8) fun b s9 w9 => ?_
    obtain ⟨H9, I9, q9⟩ := w9
    have ends : ∀ s' H', Inv Bx ([] ++ pinsAt fp s7.heap) σ8 H' s' → Nx H' → ∃ m, m < n ∧ Tn m s' := fun s' H' J' nx => by
      obtain ⟨m', lt, w'⟩ := less H' nx
      have pin : ∀ c ∈ fp, ∀ o, s7.heap.get? c = some o → s'.heap.get? c = some o ∧ H' c = none := fun c m o e =>
        have z := J'.pin (c, o) (List.mem_append_right _ (List.mem_append_right _ (mem_pinsAt m e)))
        ⟨z.1, z.2.1⟩
      refine ⟨m', lt, i + 1, H', (J'.unpinned (pins := [])).weak (by rw [← e8, wipe_length]) fun j v e => ?_, src.keep _ _ _ st7 fun c m o e => (pin c m o e).1, fun c m => ?_, w'⟩
      · exact (wipe_some (e8 ▸ e)).1
      · obtain ⟨o, e, _⟩ := src.obj _ _ st7 c m
        exact (pin c m o e).2
    cases b with
    | false => exact ends _ _ I9 q9
    | true => exact blkB.run I9 q9 ends
theorem pe_ga {cE tg iter : Expr} {nw : Sem Value} {ifs : List Expr} {o0 : Addr → HO} {mb : MB} {tb : TB} {scope : Scope} {own : List (Str × Nat)} {wi : TI} {g : TG} {tt : TT} {pos' : Pos} (Gt : Ga X cE nw tg iter ifs o0 mb) (he : eval cE X.env = comprehension cE scope X.env pos' nw false (eval iter X.env)) (hc : X.calm = true) (hN : X.N.Nodup) (hi : PI X tg iter wi) (ok : BlkOk X.N X.env.scope scope own)
    (hg : ∀ (s : Shared) (H : Hp) (C : Addr) (cl : List (Str × Addr)) (fp : List Addr), PG (X.blk s H scope (compEnvC scope cl C X.env) fp) tg g)
    (ht : ∀ (s : Shared) (H : Hp) (C : Addr) (cl : List (Str × Addr)) (fp : List Addr), PTs (X.blk s H scope (compEnvC scope cl C X.env) fp) ifs tt)
    (hb : ∀ (s : Shared) (H : Hp) (C : Addr) (cl : List (Str × Addr)) (fp : List Addr), RunB (X.blk s H scope (compEnvC scope cl C X.env) fp) mb tb)
    (hs : ∀ x, foldedSetIterable iter X.env x = pure x) : PE X cE (tGa o0 wi g tt tb (own.map (·.2))) :=
  ⟨fun pins s σ H Q I h => by
    rw [he]
    refine ga_core Gt hc hN hi ok hg ht hb hs I h fun D C s' m H' I' q hn f => ⟨m, hn, fun h2 same => ?_⟩
    obtain ⟨f0, f1, f2, f3, f4, f5⟩ := f
    exact ⟨.ref D, H', I'.turned (t' := s'.toks) (fun b o ne e => (same.2 b ne).trans e) f0 f1 f3 f4 f5, rfl, q⟩⟩
/-- name = {..} on one line, the name a plain local -/
theorem ps_ga {i : Nat} {y : Str} {py spos : Pos} {cE tg iter : Expr} {nw : Sem Value} {ifs : List Expr} {o0 : Addr → HO} {mb : MB} {tb : TB} {scope : Scope} {own : List (Str × Nat)} {wi : TI} {g : TG} {tt : TT} {pos' : Pos} (Gt : Ga X cE nw tg iter ifs o0 mb) (hsw : swapsWith cE (some (.Name y py)) spos.line X.env = pure true)
    (he : evalThenUse cE X.env (assign (.Name y py) X.env) = (do let _ ← comprehension cE scope X.env pos' nw false (eval iter X.env) (some (assign (.Name y py) X.env)))) (hc : X.calm = true) (hN : X.N.Nodup) (hy : X.N[i]? = some y) (hyl : X.env.scope.names.lookup y = some .local) (hi : PI X tg iter wi) (ok : BlkOk X.N X.env.scope scope own)
    (hg : ∀ (s : Shared) (H : Hp) (C : Addr) (cl : List (Str × Addr)) (fp : List Addr), PG (X.blk s H scope (compEnvC scope cl C X.env) fp) tg g)
    (ht : ∀ (s : Shared) (H : Hp) (C : Addr) (cl : List (Str × Addr)) (fp : List Addr), PTs (X.blk s H scope (compEnvC scope cl C X.env) fp) ifs tt)
    (hb : ∀ (s : Shared) (H : Hp) (C : Addr) (cl : List (Str × Addr)) (fp : List Addr), RunB (X.blk s H scope (compEnvC scope cl C X.env) fp) mb tb)
    (hs : ∀ x, foldedSetIterable iter X.env x = pure x) : PS X (.Assign [.Name y py] cE spos) (tAsg (tGa o0 wi g tt tb (own.map (·.2))) (gName i)) :=
  ⟨fun pins s σ H D I h => by
    rw [exec_Assign_Name_used _ _ _ _ hsw, he]
    refine wpAny_bind (wpAny_standAt (wpAny_bind (wpAny_bind ?_)))
    have h : tGa o0 wi g tt tb (own.map (·.2)) σ H (fun x H1 => gName i x σ H1 D.nx) := h
    refine thn (ga_core (Qf := fun _ s' => SP X pins D .next s') (use := some (assign (.Name y py) X.env)) Gt hc hN hi ok hg ht hb hs I h fun L C s1 m H1 I1 q hn f => ?_) fun _ s1 hq => wpAny_pure (wpAny_pure hq)
    refine wpAny_assign_Name (store_ok2 (v := V.ref L) I1 hN hy (.inl hyl) rfl (fun s2 I2 sb => ?_) (.inr hyl))
    obtain ⟨a, sb, ha⟩ := sb
    obtain ⟨f0, f1, f2, f3, f4, f5⟩ := f
    have ne : C ≠ a := ha.elim (fun z => z ▸ f1) fun z e => f4 y a z e.symm
    exact ⟨m, hn.sameBut sb ne, fun h3 sb3 => ⟨_, H1, I2.turned (t' := s2.toks) (fun b o nb e => (sb3.2 b nb).trans e) f0 f1 f3 f4 f5, q⟩⟩⟩
end
end DL
/-! ### dict comprehensions -/
namespace DL
open PySem PySem.Spec PyProof.Rows L2 PySem.W
section
variable {X : Cx} {pins : List (Addr × Obj)} {σ : L2.St} {H H' : Hp} {s : Shared} {a : Addr} {y v : V} {u r : Value} {A : Around} {E : Value → Shared → Prop}
/-- an entry put, of either kind of keys -/
theorem put_run {Q : Unit → Shared → Prop} (hu : A.units + 1 < cLine) (I : Inv X pins σ H s) (g : DPut H a y v H') (ry : RelV y u) (rv : RelV v r) (h : ∀ s', Inv X pins σ H' s' → Q () s') : wpAny (model X.prog X.w) A (dictSet a u r) Q E s := by
  rcases g with ⟨kvs, k, e, rfl, l, rfl⟩ | ⟨kvs, k, b, e, rfl, eb, l, rfl⟩
  · obtain ⟨z, nm, vs, rel, dd⟩ := dk_of I.hok e
    have lv := rel.length
    have lp := length_putK kvs k v
    refine wpAny_dictSet_pairs (kV_is ry) dd (fun h2 d2 same => h _ (d_write I (by rw [e]; trivial) same ?_ (dk_new (by omega) nm (rel.put k rv) d2))) (by omega)
    obtain ⟨q, _, _, hq, _⟩ := d2
    exact ⟨q, hq⟩
  · cases (show u = Value.ref b from ry)
    obtain ⟨z, nm, xs, rel, dd⟩ := dt_of I.hok e
    have lv := Paired.length rel
    have lp := length_putK kvs k v
    refine wpAny_dictSet_heap (show A.units < cLine by omega) (key_of I.hok eb) dd (fun h2 d2 same => h _ ?_) (by omega)
    obtain ⟨q, es, ep, hq, q2, q3, q4, _, q5⟩ := d2
    have other : ∀ (c : Addr) (ys : List V), H c = some (.tup ys) → upd H a (.dT (putK kvs k v)) c = some (.tup ys) := fun c ys ec => by
      by_cases z : c = a
      · rw [z, e] at ec; cases ec
      · rw [upd_ne z]; exact ec
    exact d_write I (by rw [e]; trivial) same ⟨q, hq⟩ ⟨by omega, nm, _, (rel.put k eb rv).keeps fun c ys ec => other c ys ec, q, es, ep, hq, q2, q3, q4, q5⟩
end
def mbD (X : Cx) (kx vx : Expr) : MB := fun env D post E s => wpAny (model X.prog X.w) X.A (eval kx env) (fun kv s1 => wpAny (model X.prog X.w) X.A (eval vx env) (fun vv s2 => wpAny (model X.prog X.w) X.A (dictSet D kv vv) (fun _ s3 => post s3) E s2) E s1) E s
def tbD (tk tv : TE) : TB := fun σ H Nx D => tk σ H fun y H1 => tv σ H1 fun z H2 => ∃ H3, DPut H2 D y z H3 ∧ Nx H3
section
variable {X : Cx}
theorem run_d {kx vx : Expr} {tk tv : TE} (hx : X.xe = fun _ _ => False) (hu : X.A.units + 1 < cLine) (hk : PE X kx tk) (hv : PE X vx tv) : RunB X (mbD X kx vx) (tbD tk tv) := ⟨fun {pins σ H s Nx D post E} I q k => by
  have nf : ∀ (u : Value) (s' : Shared), X.xe u s' → E u s' := fun u s' z => by rw [hx] at z; exact z.elim
  refine wpAny_mono (hk.run pins s σ H _ I q) (fun u s1 h1 => ?_) nf
  obtain ⟨y, H1, I1, r1, q1⟩ := h1
  refine wpAny_mono (hv.run pins s1 σ H1 _ I1 q1) (fun v s2 h2 => ?_) nf
  obtain ⟨z, H2, I2, r2, H3, g, nx⟩ := h2
  exact put_run hu I2 g r1 r2 fun s3 I3 => k s3 H3 I3 nx⟩
/-- a dict comprehension gathers -/
theorem ga_d {kx vx tg iter : Expr} {ifs : List Expr} {scope : Scope} {pos : Pos} {o0 : Addr → HO} (ho : o0 = (fun _ => .dK []) ∨ o0 = fun _ => .dT []) : Ga X (.DictComp kx vx [⟨tg, iter, ifs, 0⟩] scope pos) newDict tg iter ifs o0 (mbD X kx vx) where
  cl := rfl
  new := fun {pins σ H s A E Q} I k => wpAny_newObj_type (k _ (I.laid (a := s.heap.objs.size) (o := o0 s.heap.objs.size) (t' := s.toks) (fun _ _ e => Heap.get?_push_of_some _ e) (Nat.le_refl _) (by
    rcases ho with rfl | rfl
    · exact dk_empty s.heap I.big
    · exact dt_empty s.heap I.big)))
  loop := fun I turn n h => compLoop_anyD I turn n h
  start := fun h0 h => codeAny_compStart_dict h0 h
end
end DL
/-! ### what a gathering comes to, over data -/
namespace DL
open PySem PySem.Spec PyProof.Rows L2 PySem.W
section
variable {J : It} {n : Nat} {G : Hp → Prop} {Y : Nat → Hp → V → Hp → Prop}
/-- a gathering over a walk: Pv by the turn -/
theorem ga_it (w : Walk J n G Y) {o0 : Addr → HO} {g : TG} {tt : TT} {tb : TB} {vs : List Nat} {σ : L2.St} {H1 : Hp} {D : Addr} {Qd : Hp → Prop} (Pv : Nat → Hp → Prop) (h0 : Pv 0 (upd H1 D (o0 D))) (hG : ∀ i H, i ≤ n → Pv i H → G H)
    (hs : ∀ i x H H', i < n → Pv i H → Y i H x H' → g x (wipe σ vs) H' fun σ2 H2 => wipe σ2 vs = wipe σ vs ∧ tt σ2 H2 fun b H3 => if b = true then tb σ2 H3 (Pv (i + 1)) D else Pv (i + 1) H3) (hd : ∀ H, Pv n H → Qd H) :
    ∃ W : Nat → Nat → Hp → Prop, (∃ m, W 0 m (upd H1 D (o0 D))) ∧ ∀ i m H, W i m H → (J.stop i H ∧ Qd H) ∨
      (J.go i H ∧ ∃ Nx : Hp → Prop, (∀ H', Nx H' → ∃ m', m' < m ∧ W (i + 1) m' H') ∧
        ∀ x H', J.yld i H x H' → g x (wipe σ vs) H' fun σ2 H2 => wipe σ2 vs = wipe σ vs ∧ tt σ2 H2 fun b H3 => if b = true then tb σ2 H3 Nx D else Nx H3) := by
  refine ⟨fun i m H => i + m = n ∧ Pv i H, ⟨n, by omega, h0⟩, fun i m H h => ?_⟩
  obtain ⟨e, p⟩ := h
  have st := hG i H (by omega) p
  cases m with
  | zero =>
    have e : i = n := e
    subst e
    exact .inl ⟨w.stops H st, hd H p⟩
  | succ m => exact .inr ⟨w.goes i H (by omega) st, Pv (i + 1), fun H' p' => ⟨m, Nat.lt_succ_self m, by omega, p'⟩, fun x H' y => hs i x H H' (by omega) p (w.yields i H x H' (by omega) st y)⟩
end
/-- what is gathered over the items, the slots e0 behind each -/
def gaGo {A : Type} (g : G1) (t : T1) (px : DE → Wd → A → Option (A × Wd)) (e0 : DE) : List PyData → A → Wd → Option (A × Wd)
  | [], acc, w => some (acc, w)
  | d :: ds, acc, w => match g d e0 with
    | none => none
    | some e1 => match t e1 w with
      | none => none
      | some (false, w1) => gaGo g t px e0 ds acc w1
      | some (true, w1) => match px e1 w1 acc with
        | some (acc', w2) => gaGo g t px e0 ds acc' w2
        | none => none
/-- what the heap holds of what was gathered so far, and how that stays -/
structure Keeps {A : Type} (at_ : (Addr → Prop) → Hp → Addr → A → Prop) : Prop where
  up : ∀ {M M' : Addr → Prop} {H H' : Hp} {D : Addr} {acc : A}, at_ M H D acc → (∀ o, H D = some o → H' D = some o) → (∀ b o, H b = some o → ¬ M b → H' b = some o) → (∀ b, M' b → M b ∨ H b = none) → at_ M' H' D acc
/-- an item is put -/
def Puts {A : Type} (tb : TB) (px : DE → Wd → A → Option (A × Wd)) (at_ : (Addr → Prop) → Hp → Addr → A → Prop) (sz : A → Nat) : Prop :=
  ∀ {P : Addr → Prop} {α : List Addr} {e : DE} {w w' : Wd} {σ : L2.St} {H : Hp} {D : Addr} {acc acc' : A} {Nx : Hp → Prop}, Rel (fun b => P b ∨ b = D) α e w σ H → px e w acc = some (acc', w') → at_ (Msk (fun b => P b ∨ b = D) α e σ) H D acc → sz acc < LIM →
    (∀ H4 α4 o, UpE α H α4 H4 → Rel (fun b => P b ∨ b = D) α4 e w' σ H4 → Mut (some o) → Rel (fun b => P b ∨ b = D) α4 e w' σ (upd H4 D o) → at_ (Msk (fun b => P b ∨ b = D) α4 e σ) (upd H4 D o) D acc' → Nx (upd H4 D o)) → tb σ H Nx D
theorem ga_step {A : Type} {o0 : Addr → HO} {wi : TI} {it : I1} {gt : TG} {g : G1} {t : T1} {tb : TB} {px : DE → Wd → A → Option (A × Wd)} {at_ : (Addr → Prop) → Hp → Addr → A → Prop} {sz : A → Nat} {acc0 : A} {vs vs' : List Nat}
    (so : SrcOw wi it) (gd : GD gt g vs') (hvs : ∀ i ∈ vs', i ∈ vs) (ke : Keeps at_) (pu : Puts tb px at_ sz) (hm0 : ∀ D, Mut (some (o0 D))) (h00 : ∀ (M : Addr → Prop) (H : Hp) (D : Addr), H D = none → at_ M (upd H D (o0 D)) D acc0) (s0 : sz acc0 = 0) (s1 : ∀ e w acc acc' w', px e w acc = some (acc', w') → sz acc' ≤ sz acc + 1)
    {σ : L2.St} {H : Hp} {Q : VK} {P : Addr → Prop} {α : List Addr} {e : DE} {w w1 wE : Wd} {items : List PyData} {accE : A} (R : Rel P α e w σ H) (hk : okW e vs = true) (h1 : it e w = some (items, w1)) (h2 : gaGo g t px (wipeE e vs) items acc0 w1 = some (accE, wE))
    (k : ∀ D H' α', UpE α H α' H' → H D = none → Rel (fun b => P b ∨ b = D) α' e wE σ H' → ¬ P D → at_ (Msk (fun b => P b ∨ b = D) α' e σ) H' D accE → sz accE ≤ items.length → Q (.ref D) H') : tGa o0 wi gt (tDT t) tb vs σ H Q := by
  refine so.run σ H _ ⟨P, α, e, w, items, w1, R, h1, fun J S H1 α1 u1 R1 hS hlim src D hD => ?_⟩
  obtain ⟨G, Y, wk, hG, hY⟩ := src
  have hSD : ∀ b o, S b → H1 b = some o → b ≠ D := fun b o _ h => ne_of_none h hD
  have nPD : ¬ P D := fun z => R1.known (.inl z) hD
  have nD : ∀ β : List Addr, (∀ b ∈ β, ¬ (P b ∨ b = D)) → D ∉ β := fun β h m => h D m (.inr rfl)
  refine ga_it wk (fun i H' => ∃ α' w' acc, UpE α1 H1 α' H' ∧ Rel (fun b => P b ∨ b = D) α' e w' σ H' ∧ at_ (Msk (fun b => P b ∨ b = D) α' e σ) H' D acc ∧ sz acc ≤ i ∧ gaGo g t px (wipeE e vs) (items.drop i) acc w' = some (accE, wE) ∧ ∃ o, H' D = some o)
    ⟨α1, w1, acc0, (UpE.refl α1 H1).mut hD, R1.guard hD (hm0 D), h00 _ _ _ hD, Nat.le_of_eq s0, h2, _, upd_same⟩ ?_ ?_ ?_
  · rintro i H' hi ⟨α', w', acc, u, R', ha, hz, hgo, _⟩
    exact hG H' fun b o hb h => u.kp b o h (hS b hb)
  · rintro i x0 H' H'' hi ⟨α', w', acc, u, R', ha, hz, hgo, oD, hoD⟩ y
    have hd : items[i]? = some items[i] := List.getElem?_eq_getElem hi
    rw [List.drop_eq_getElem_cons hi] at hgo
    generalize items[i] = d0 at hd hgo
    unfold gaGo at hgo
    have R0 : Rel (fun b => P b ∨ b = D) α' (wipeE e vs) w' (wipe σ vs) H' := R'.wiped hk
    obtain ⟨sm, dx⟩ := hY i d0 H' x0 H'' (Msk (fun b => P b ∨ b = D) α' (wipeE e vs) (wipe σ vs)) hd y R0.mut fun v d' h => by
      refine h.up (fun b o q n => u.kp b o q fun hb => n (.inr (.inl hb))) fun b m => ?_
      rcases m with (m | m) | m | m
      · exact .inl (.inl m)
      · exact .inr (by rw [m]; exact hD)
      · by_cases hb : b ∈ α1
        · exact .inl (.inr (.inl hb))
        · exact .inr (u.fre b m hb)
      · exact .inl (.inr (.inr ((own_wipe hk b).mp m)))
    cases h3 : g d0 (wipeE e vs) with
    | none => simp [h3] at hgo
    | some e1 =>
      simp only [h3] at hgo
      refine gd.run _ α' _ w' _ H'' x0 d0 e1 _ (R0.same sm) dx h3 fun σ2 R2 ow kp l2 => ⟨?_, ?_⟩
      · rw [← wipe_wipe σ vs]
        exact wipe_eq (fun j hj => kp j fun z => hj (hvs j z)) l2
      have owE : ∀ b, OwnAt e σ b → OwnAt e1 σ2 b := fun b o => (ow b).mpr ((own_wipe hk b).mpr o)
      have owI : ∀ b, OwnAt e1 σ2 b → OwnAt e σ b := fun b o => (own_wipe hk b).mp ((ow b).mp o)
      cases h4 : t e1 w' with
      | none => simp [h4] at hgo
      | some p =>
        obtain ⟨b, w3⟩ := p
        refine ⟨_, α', e1, w', b, w3, R2, h4, fun H3 α3 u3 R3 => ?_⟩
        have uA : UpE α' H' α3 H3 := (UpE.of_same sm).trans u3
        have keepD : ∀ o, H' D = some o → H3 D = some o := fun o h => u3.kp D o (sm _ _ h) (nD α' R'.pa)
        have a3 : at_ (Msk (fun b => P b ∨ b = D) α3 e σ) H3 D acc := ke.up ha keepD (fun b o q n => uA.kp b o q fun hb => n (.inr (.inl hb))) fun b m => Msk.up uA m
        cases b with
        | false =>
          simp only [h4] at hgo
          exact iteF ⟨α3, w3, acc, u.trans uA, R'.carry uA R3 owE, a3, Nat.le_succ_of_le hz, hgo, oD, keepD _ hoD⟩
        | true =>
          simp only [h4] at hgo
          refine iteT ?_
          cases h5 : px e1 w3 acc with
          | none => simp [h5] at hgo
          | some p =>
            obtain ⟨acc', w4⟩ := p
            simp only [h5] at hgo
            refine pu R3 h5 (ke.up a3 (fun _ q => q) (fun _ _ q _ => q) fun b m => .inl (Msk.le owI m)) (Nat.lt_of_le_of_lt hz (Nat.lt_of_lt_of_le hi hlim)) fun H4 α4 o u4 R4 mo R5 a5 => ?_
            have uB : UpE α' H' α4 H4 := uA.trans u4
            have RC := R'.carry uB R4 owE
            exact ⟨α4, w4, acc', (u.trans uB).mut hD, RC.turn mo, ke.up a5 (fun _ q => q) (fun _ _ q _ => q) fun b m => .inl (Msk.le owE m), Nat.le_trans (s1 _ _ _ _ _ h5) (Nat.succ_le_succ hz), hgo, o, upd_same⟩
  · rintro H' ⟨α', w', acc, u, R', ha, hz, hgo, _⟩
    rw [List.drop_length] at hgo
    cases hgo
    refine k D H' α' (u1.trans u) ?_ R' nPD ha hz
    cases q : H D with
    | none => rfl
    | some o =>
      have hb : D ∉ α := fun hb => by
        obtain ⟨β, hβ⟩ := u1.pre
        exact R1.known (.inr (.inl (by rw [hβ]; exact List.mem_append_left _ hb))) hD
      have := u1.kp D o q hb
      rw [hD] at this
      cases this
end DL
/-! ### {(a, b): v for ..} -/
namespace DL
open PySem PySem.Spec PyProof.Rows L2 PySem.W
def pxT (xk xv : X1) : DE → Wd → List (List Key × PyData) → Option (List (List Key × PyData) × Wd) := fun e w acc => match xk e w with
  | some (.v k, w1) => match xv e w1 with
    | some (.v v, w2) => match keyT k with
      | some ks => some (putTD acc ks v, w2)
      | none => none
    | _ => none
  | _ => none
def gaT (M : Addr → Prop) (H : Hp) (D : Addr) (acc : List (List Key × PyData)) : Prop := ∃ vs : List (List Key × V), H D = some (.dT vs) ∧ KVg M H vs acc
theorem keeps_T : Keeps gaT := ⟨fun {M M' H H' D acc} a hD nm lm => by
  obtain ⟨vs, h1, h2⟩ := a
  exact ⟨vs, hD _ h1, pmapQ h2 fun p q z => ⟨z.1, z.2.up nm lm⟩⟩⟩
theorem len_putT (acc : List (List Key × PyData)) (k : List Key) (v : PyData) : (putTD acc k v).length ≤ acc.length + 1 := by
  unfold putTD
  split <;> simp
theorem puts_T {xk xv : X1} : Puts (tbD (tD xk) (tD xv)) (pxT xk xv) gaT List.length := fun {P α e w w' σ H D acc acc' Nx} R hp ha hl k => by
  unfold pxT at hp
  split at hp
  · rename_i dk w1 h1
    split at hp
    · rename_i dv w2 h2
      split at hp
      · rename_i ks h3
        cases hp
        refine ⟨_, α, e, w, _, w1, R, h1, fun y H1 α1 u1 R1 i1 => ⟨_, α1, e, w1, _, _, R1, h2, fun z H2 α2 u2 R2 i2 => ?_⟩⟩
        have u := u1.trans u2
        have nD1 : D ∉ α := fun m => R.pa D m (.inr rfl)
        obtain ⟨vs, hD, pr⟩ := keeps_T.up ha (fun o q => u.kp D o q nD1) (fun b o q n => u.kp b o q fun hb => n (.inr (.inl hb))) fun b m => Msk.up u m
        have iy := (show IsR _ α1 e σ H1 y (.v dk) from i1).up u2
        obtain ⟨b, rfl, eb⟩ := keyT_ok (.inl (show Dv (Msk (fun b => P b ∨ b = D) α2 e σ) H2 y dk from iy)) h3
        have hlen : vs.length = acc.length := Paired.len pr
        have nm : ∀ c o, H2 c = some o → ¬ Msk (fun b => P b ∨ b = D) α2 e σ c → (upd H2 D (.dT (putK vs ks z))) c = some o := fun c o h n => by
          rw [upd_ne (fun q => n (.inl (.inr q)))]
          exact h
        refine ⟨_, DPut.t (k := ks) hD eb (by rw [hlen]; exact lim_lt hl), k H2 α2 _ u R2 trivial (R2.turn trivial) ⟨_, upd_same, ?_⟩⟩
        exact kvt_put (Dv.up (show Dv (Msk (fun b => P b ∨ b = D) α2 e σ) H2 z dv from i2) nm fun c m => .inl m) (pmapQ pr fun p q r => ⟨r.1, r.2.up nm fun c m => .inl m⟩)
      · cases hp
    · cases hp
  · cases hp
/-- the dict, a new shared thing -/
def xDcT (vs : List Nat) (it : I1) (g : G1) (t : T1) (xk xv : X1) : X1 := fun e w => if okW e vs then match it e w with
  | none => none
  | some (ds, w1) => match gaGo g t (pxT xk xv) (wipeE e vs) ds [] w1 with
    | some (kvs, w2) => some (.obj w2.length, w2 ++ [.dtt kvs])
    | none => none
  else none
section
variable {X : Cx}
theorem dcT_step {wi : TI} {it : I1} {gt : TG} {g : G1} {t : T1} {xk xv : X1} {vs vs' : List Nat} (so : SrcOw wi it) (gd : GD gt g vs') (hvs : ∀ i ∈ vs', i ∈ vs) {σ : L2.St} {H : Hp} {Q : VK} (q : tD (xDcT vs it g t xk xv) σ H Q) : tGa (fun _ => .dT []) wi gt (tDT t) (tbD (tD xk) (tD xv)) vs σ H Q := by
  obtain ⟨P, α, e, w, r, wE, R, hf, k⟩ := q
  unfold xDcT at hf
  by_cases hk' : okW e vs = true
  case neg => rw [if_neg hk'] at hf; cases hf
  rw [if_pos hk'] at hf
  split at hf
  · cases hf
  · rename_i items w1 h1
    split at hf
    · rename_i kvs w2 h2
      cases hf
      refine ga_step (o0 := fun _ => .dT []) (acc0 := []) so gd hvs keeps_T puts_T (fun _ => trivial) (fun M H D h => ⟨[], upd_same, .nil⟩) rfl (fun e w acc acc' w' h => ?_) R hk' h1 h2 fun D H' α' u hD R' nP a hz => ?_
      · unfold pxT at h
        split at h
        · split at h
          · split at h
            · cases h; exact len_putT ..
            · cases h
          · cases h
        · cases h
      · obtain ⟨vs, h3, pr⟩ := a
        refine k (.ref D) H' (α' ++ [D]) (u.adopt hD) (R'.adopt nP fun M' lm => ⟨vs, h3, pmapQ pr fun p q z => ⟨z.1, z.2.up (fun _ _ q _ => q) fun b m => .inl (lm b m)⟩⟩) ⟨D, ?_, rfl⟩
        rw [← R'.al, List.getElem?_append_right (Nat.le_refl _)]
        simp
    · cases hf
theorem d_dcT {kx vx tg iter : Expr} {ifs : List Expr} {scope : Scope} {own : List (Str × Nat)} {pos : Pos} {wi : TI} {it : I1} {gt : TG} {g : G1} {t : T1} {xk xv : X1} {vs' : List Nat} (hc : X.calm = true) (hu : X.A.units + 1 < cLine) (hN : X.N.Nodup) (hi : PI X tg iter wi) (so : SrcOw wi it) (ok : BlkOk X.N X.env.scope scope own)
    (hg : ∀ (s : Shared) (H : Hp) (C : Addr) (cl : List (Str × Addr)) (fp : List Addr), PG (X.blk s H scope (compEnvC scope cl C X.env) fp) tg gt) (gd : GD gt g vs') (hvs : ∀ i ∈ vs', i ∈ own.map (·.2))
    (ht : ∀ (s : Shared) (H : Hp) (C : Addr) (cl : List (Str × Addr)) (fp : List Addr), PTs (X.blk s H scope (compEnvC scope cl C X.env) fp) ifs (tDT t))
    (hk : ∀ (s : Shared) (H : Hp) (C : Addr) (cl : List (Str × Addr)) (fp : List Addr), PE (X.blk s H scope (compEnvC scope cl C X.env) fp) kx (tD xk))
    (hv : ∀ (s : Shared) (H : Hp) (C : Addr) (cl : List (Str × Addr)) (fp : List Addr), PE (X.blk s H scope (compEnvC scope cl C X.env) fp) vx (tD xv)) (hs : ∀ x, foldedSetIterable iter X.env x = pure x := by intro _; rfl) :
    PE X (.DictComp kx vx [⟨tg, iter, ifs, 0⟩] scope pos) (tD (xDcT (own.map (·.2)) it g t xk xv)) :=
  (pe_ga (o0 := fun _ => .dT []) (scope := scope) (pos' := firstIterPos [⟨tg, iter, ifs, 0⟩] pos) (ga_d (.inr rfl)) rfl hc hN hi ok hg ht (fun s H C cl fp => run_d rfl hu (hk s H C cl fp) (hv s H C cl fp)) hs).imp fun _ _ _ q => dcT_step so gd hvs q
theorem ds_setDcT {i : Nat} {y : Str} {py spos : Pos} {kx vx tg iter : Expr} {ifs : List Expr} {scope : Scope} {own : List (Str × Nat)} {pos : Pos} {wi : TI} {it : I1} {gt : TG} {g : G1} {t : T1} {xk xv : X1} {vs' : List Nat} (hy : X.N[i]? = some y) (hc : X.calm = true) (hu : X.A.units + 1 < cLine) (hN : X.N.Nodup) (hi : PI X tg iter wi) (so : SrcOw wi it) (ok : BlkOk X.N X.env.scope scope own)
    (hg : ∀ (s : Shared) (H : Hp) (C : Addr) (cl : List (Str × Addr)) (fp : List Addr), PG (X.blk s H scope (compEnvC scope cl C X.env) fp) tg gt) (gd : GD gt g vs') (hvs : ∀ i ∈ vs', i ∈ own.map (·.2))
    (ht : ∀ (s : Shared) (H : Hp) (C : Addr) (cl : List (Str × Addr)) (fp : List Addr), PTs (X.blk s H scope (compEnvC scope cl C X.env) fp) ifs (tDT t))
    (hk : ∀ (s : Shared) (H : Hp) (C : Addr) (cl : List (Str × Addr)) (fp : List Addr), PE (X.blk s H scope (compEnvC scope cl C X.env) fp) kx (tD xk))
    (hv : ∀ (s : Shared) (H : Hp) (C : Addr) (cl : List (Str × Addr)) (fp : List Addr), PE (X.blk s H scope (compEnvC scope cl C X.env) fp) vx (tD xv))
    (hyl : X.env.scope.names.lookup y = some .local) (hsw : swapsWith (.DictComp kx vx [⟨tg, iter, ifs, 0⟩] scope pos) (some (.Name y py)) spos.line X.env = pure true) (hs : ∀ x, foldedSetIterable iter X.env x = pure x := by intro _; rfl) :
    PS X (.Assign [.Name y py] (.DictComp kx vx [⟨tg, iter, ifs, 0⟩] scope pos) spos) (tS (sSet i (xDcT (own.map (·.2)) it g t xk xv))) :=
  (ps_ga (o0 := fun _ => .dT []) (scope := scope) (pos' := firstIterPos [⟨tg, iter, ifs, 0⟩] pos) (ga_d (.inr rfl)) hsw rfl hc hN hy hyl hi ok hg ht (fun s H C cl fp => run_d rfl hu (hk s H C cl fp) (hv s H C cl fp)) hs).imp fun _ _ _ q => dcT_step so gd hvs (sset_asg q)
theorem sw_dict {kx vx : Expr} {gs : List Comprehension} {scope : Scope} {pos py : Pos} {y : Str} {l : Nat} {env : Env} (hk : env.scope.kind = .function) (hy : env.scope.names.lookup y = some .local) (hl : (py.line == pos.line) = true)
    (ha : (scope.names.any fun (n, k) => n == y && (k == .local || k == .cell)) = false) : swapsWith (.DictComp kx vx gs scope pos) (some (.Name y py)) l env = pure true := by
  have k1 : env.kindOf y = some .local := hy
  have k2 : env.blockKind = .function := by rw [Env.blockKind, hk]; rfl
  simp only [swapsWith, k1, k2, ha, Expr.pos, hl]
  rfl
end
end DL
/-! ### {x for ..}: sets of ints, of pairs -/
namespace DL
open PySem PySem.Spec PyProof.Rows L2 PySem.W
def mbS (X : Cx) (elt : Expr) : MB := fun env D post E s => wpAny (model X.prog X.w) X.A (eval elt env) (fun x s1 => wpAny (model X.prog X.w) X.A (call (.builtin "set.add") [.ref D, x]) (fun _ s2 => post s2) E s1) E s
section
variable {X : Cx}
theorem ga_s {elt tg iter : Expr} {ifs : List Expr} {scope : Scope} {pos : Pos} {o0 : Addr → HO} (ho : o0 = (fun D => SetO X.w D (fun _ => false) 0) ∨ o0 = fun D => SetTO X.prog X.w D []) : Ga X (.SetComp elt [⟨tg, iter, ifs, 0⟩] scope pos) (newSet (.type "set")) tg iter ifs o0 (mbS X elt) where
  cl := rfl
  new := fun {pins σ H s A E Q} I k => PpSet.newSet_ok (k _ (I.laid (a := s.heap.objs.size) (o := o0 s.heap.objs.size) (t' := s.toks) (fun _ _ e => Heap.get?_push_of_some _ e) (Nat.le_refl _) (by
    rcases ho with rfl | rfl
    · exact setO_new (setR_fresh X.w)
    · exact setTO_new (setTR_fresh (Heap.get?_push_size _ rfl)).t0)))
  loop := fun I turn n h => PpSet.compLoopS_any I turn n h
  start := fun h0 h => PpSet.codeAny_compStart_set h0 h
def tbI (w : World) (tx : TE) : TB := fun σ H Nx D => tx σ H fun y H1 => ∃ (k : Int) (S : Int → Bool) (n : Nat), y = .int k ∧ H1 D = some (SetO w D S n) ∧ n + 1 < scanBound ∧ Nx (upd H1 D (SetO w D (fun j => S j || decide (j = k)) (if S k = true then n else n + 1)))
def tbP (P : Program) (w : World) (tx : TE) : TB := fun σ H Nx D => tx σ H fun y H1 => ∃ (b : Addr) (k : List Int) (L : List (Addr × List Int)), y = .ref b ∧ H1 b = some (.tup (k.map V.int)) ∧ H1 D = some (SetTO P w D L) ∧ (∀ p ∈ L, H1 p.1 = some (.tup (p.2.map V.int))) ∧ L.length + 1 < 64 ∧
  ∀ L', (k ∈ L.map (·.2) → L' = L) → (k ∉ L.map (·.2) → L'.Perm ((b, k) :: L)) → Nx (upd H1 D (SetTO P w D L'))
theorem run_i {elt : Expr} {tx : TE} (hx : X.xe = fun _ _ => False) (he : PE X elt tx) : RunB X (mbS X elt) (tbI X.w tx) := ⟨fun {pins σ H s Nx D post E} I q k => by
  refine wpAny_mono (he.run pins s σ H _ I q) (fun u s1 h1 => ?_) fun u s' z => by rw [hx] at z; exact z.elim
  obtain ⟨y, H1, I1, r1, j, S, n, rfl, hD, room, nx⟩ := h1
  obtain ⟨tk, rfl⟩ := (show ∃ tk, u = .int j tk from r1)
  refine setR_add (setO_get I1 hD) room fun h' same new => ?_
  have ex : ∃ o, h'.get? D = some o := by
    obtain ⟨o, _, _, _, ho, _⟩ := new
    exact ⟨o, ho⟩
  exact k _ _ (I1.write (e := D) (t' := s1.toks + 1) (by rw [hD]; trivial) (.inl rfl) (fun b o ne e => (same.2 b ne).trans e) ex (setO_new new)) nx⟩
/-- set.add of a row of ints -/
theorem add_row {pins : List (Addr × Obj)} {σ : L2.St} {H : Hp} {s : Shared} {E : Value → Shared → Prop} {Q : Value → Shared → Prop} {D b : Addr} {k : List Int} {L : List (Addr × List Int)} (hu : X.A.units + 1 < cLine) (I : Inv X pins σ H s) (hb : H b = some (.tup (k.map V.int))) (hD : H D = some (SetTO X.prog X.w D L)) (hL : ∀ p ∈ L, H p.1 = some (.tup (p.2.map V.int))) (hf : L.length + 1 < 64)
    (h : ∀ L' s', (k ∈ L.map (·.2) → L' = L) → (k ∉ L.map (·.2) → L'.Perm ((b, k) :: L)) → Inv X pins σ (upd H D (SetTO X.prog X.w D L')) s' → Q .none s') : wpAny (model X.prog X.w) X.A (call (.builtin "set.add") [.ref D, .ref b]) Q E s := by
  have isT : ∀ {c : Addr} {ns : List Int}, H c = some (.tup (ns.map V.int)) → IsT X.prog X.w s.heap ns c := fun e => I.isT (SqT.of e)
  obtain ⟨es, ep, t, R⟩ := SetT0.full (show SetT0 X.prog X.w s.heap D L from (I.hok D _ hD).1) fun p hp => isT (hL p hp)
  obtain ⟨o, ho, hex, hd⟩ := R.ob
  refine wpAny_call_entry F.slot_set_add ⟨o, ho, hex.1⟩ F.entry_set_add ?_ (F.args_set_add_2 _ _)
  unfold Builtin.«set.add» Builtin.Frozenset.oneOther
  simp only [List.isEmpty_nil, bind_assoc]
  unfold Builtin.Frozenset.addrOf setAdd
  refine wpAny_bind (wpAny_pure (wpAny_bind (wpAny_pure (wpAny_bind (wpAny_holding (wpAny_bind (wpAny_pyHash_tuple (by show X.A.units + 1 < cLine; omega) (isT hb) ?_)))))))
  refine add_at (s := { s with toks := s.toks + (k.length + 1) }) R (isT hb) (by show X.A.units + 1 < cLine; omega) hf fun _ h' L' es' ep' t' same R' c1 c2 => ?_
  obtain ⟨o', ho', _⟩ := R'.ob
  have I' : Inv X pins σ (upd H D (SetTO X.prog X.w D L')) { s with heap := h', toks := s.toks + (k.length + 1) } := I.write (e := D) (t' := s.toks + (k.length + 1)) (by rw [hD]; trivial) (.inl rfl) (fun c u ne e => (same.2 c ne).trans e) ⟨o', ho'⟩ (setTO_new R'.t0)
  exact wpAny_pure ⟨_, rfl, h L' _ c1 c2 I'⟩
theorem run_p {elt : Expr} {tx : TE} (hx : X.xe = fun _ _ => False) (hu : X.A.units + 1 < cLine) (he : PE X elt tx) : RunB X (mbS X elt) (tbP X.prog X.w tx) := ⟨fun {pins σ H s Nx D post E} I q k => by
  refine wpAny_mono (he.run pins s σ H _ I q) (fun u s1 h1 => ?_) fun u s' z => by rw [hx] at z; exact z.elim
  obtain ⟨y, H1, I1, r1, b, ks, L, rfl, hb, hD, hL, hf, nx⟩ := h1
  cases (show u = Value.ref b from r1)
  exact add_row hu I1 hb hD hL hf fun L' s2 c1 c2 I2 => k _ _ I2 (nx L' c1 c2)⟩
end
end DL
/-! ### sorted({x for ..}) -/
namespace DL
open PySem PySem.Spec PyProof.Rows L2 PySem.W
def pxI (x : X1) : DE → Wd → List Int → Option (List Int × Wd) := fun e w acc => match x e w with
  | some (.v (.int k), w1) => if acc.length < 60 then some (if k ∈ acc then acc else acc ++ [k], w1) else none
  | _ => none
def gaI (w : World) (_ : Addr → Prop) (H : Hp) (D : Addr) (acc : List Int) : Prop := H D = some (SetO w D (fun j => decide (j ∈ acc)) acc.length) ∧ acc.length ≤ 60
theorem keeps_I {w : World} : Keeps (gaI w) := ⟨fun a hD _ _ => ⟨hD _ a.1, a.2⟩⟩
theorem puts_I {w : World} {x : X1} : Puts (tbI w (tD x)) (pxI x) (gaI w) List.length := fun {P α e w0 w' σ H D acc acc' Nx} R hp ha hl k => by
  unfold pxI at hp
  split at hp
  · rename_i j w1 h1
    split at hp
    · rename_i h60
      cases hp
      refine ⟨_, α, e, w0, _, _, R, h1, fun y H1 α1 u R1 i1 => ?_⟩
      have nD : D ∉ α := fun m => R.pa D m (.inr rfl)
      have hD := u.kp D _ ha.1 nD
      obtain rfl : y = V.int j := Dv0.int (M := Msk (fun b => P b ∨ b = D) α1 e σ) (H := H1) (.inl i1)
      have e1 : (fun i : Int => decide (i ∈ acc) || decide (i = j)) = fun i => decide (i ∈ (if j ∈ acc then acc else acc ++ [j])) := by
        funext i
        by_cases h : j ∈ acc
        · rw [if_pos h, Bool.eq_iff_iff]
          simp only [Bool.or_eq_true, decide_eq_true_eq]
          exact ⟨fun q => q.elim id fun q => q ▸ h, .inl⟩
        · rw [if_neg h, Bool.eq_iff_iff]
          simp only [Bool.or_eq_true, decide_eq_true_eq, List.mem_append, List.mem_singleton]
      have e2 : (if decide (j ∈ acc) = true then acc.length else acc.length + 1) = (if j ∈ acc then acc else acc ++ [j]).length := by
        by_cases h : j ∈ acc
        · rw [if_pos h, if_pos (decide_eq_true h)]
        · rw [if_neg h, if_neg (by simpa using h), List.length_append]
          rfl
      refine ⟨j, _, _, rfl, hD, Nat.lt_of_lt_of_le (show acc.length + 1 < 64 by omega) (by decide), k H1 α1 _ u R1 trivial (R1.turn trivial) ?_⟩
      refine ⟨?_, ?_⟩
      case refine_2 =>
        split
        · exact Nat.le_of_lt h60
        · rw [List.length_append]; exact h60
      rw [upd_same, e1, e2]
    · cases hp
  · cases hp
def pairOf : PyData → Option (Int × Int)
  | .tuple [.int a, .int b] => some (a, b)
  | _ => none
def pxP (x : X1) : DE → Wd → List (Int × Int) → Option (List (Int × Int) × Wd) := fun e w acc => match x e w with
  | some (.v d, w1) => match pairOf d with
    | some p => if acc.length < 60 ∧ loP p then some (if p ∈ acc then acc else acc ++ [p], w1) else none
    | none => none
  | _ => none
def rwP (p : Int × Int) : List Int := [p.1, p.2]
theorem rwP_inj {p q : Int × Int} : rwP p = rwP q ↔ p = q := by simp [rwP, Prod.ext_iff]
def gaP (P : Program) (w : World) (M : Addr → Prop) (H : Hp) (D : Addr) (acc : List (Int × Int)) : Prop := (∃ L : List (Addr × List Int), H D = some (SetTO P w D L) ∧ (∀ p ∈ L, ¬ M p.1 ∧ H p.1 = some (.tup (p.2.map V.int))) ∧ (L.map (·.2)).Perm (acc.map rwP)) ∧ acc.length ≤ 60 ∧ ∀ p ∈ acc, loP p
theorem keeps_P {P : Program} {w : World} : Keeps (gaP P w) := ⟨fun {M M' H H' D acc} a hD nm lm => by
  obtain ⟨⟨L, h1, h2, h3⟩, h4⟩ := a
  refine ⟨⟨L, hD _ h1, fun p hp => ⟨fun m => ?_, nm _ _ (h2 p hp).2 (h2 p hp).1⟩, h3⟩, h4⟩
  rcases lm _ m with m | m
  · exact (h2 p hp).1 m
  · rw [(h2 p hp).2] at m; cases m⟩
theorem pair_is {M : Addr → Prop} {H : Hp} {v : V} {d : PyData} {p : Int × Int} (h : Dv0 M H v d) (e : pairOf d = some p) : ∃ b, v = .ref b ∧ ¬ M b ∧ H b = some (.tup ((rwP p).map V.int)) := by
  unfold pairOf at e
  split at e
  · rename_i i j
    cases e
    cases h.tupX with
    | atm q => cases q
    | @tup a xs _ nm rd lm q =>
      refine ⟨a, rfl, nm, ?_⟩
      rw [rd]
      cases q with
      | cons q1 q2 =>
        cases q2 with
        | cons q2 q3 =>
          cases q3
          rw [Dv0.int (.inl q1), Dv0.int (.inl q2)]
          rfl
  · cases e
theorem puts_P {P : Program} {w : World} {x : X1} : Puts (tbP P w (tD x)) (pxP x) (gaP P w) List.length := fun {P' α e w0 w' σ H D acc acc' Nx} R hp ha hl k => by
  unfold pxP at hp
  split at hp
  · rename_i d w1 h1
    split at hp
    · rename_i p h2
      split at hp
      · rename_i h60
        cases hp
        refine ⟨_, α, e, w0, _, _, R, h1, fun y H1 α1 u R1 i1 => ?_⟩
        have nD : D ∉ α := fun m => R.pa D m (.inr rfl)
        obtain ⟨⟨L, hD, hL, pm⟩, _, lo⟩ := keeps_P.up ha (fun o q => u.kp D o q nD) (fun b o q n => u.kp b o q fun hb => n (.inr (.inl hb))) fun b m => Msk.up u m
        obtain ⟨b, rfl, nb, hb⟩ := pair_is (.inl (show Dv (Msk (fun b => P' b ∨ b = D) α1 e σ) H1 y d from i1)) h2
        have hlen : L.length = acc.length := by
          have := pm.length_eq
          simpa using this
        have mem : rwP p ∈ L.map (·.2) ↔ p ∈ acc := by
          rw [pm.mem_iff, List.mem_map]
          exact ⟨fun ⟨q, h, e⟩ => rwP_inj.mp e ▸ h, fun h => ⟨p, h, rfl⟩⟩
        refine ⟨b, rwP p, L, rfl, hb, hD, fun q hq => (hL q hq).2, by omega, fun L' c1 c2 => k H1 α1 _ u R1 trivial (R1.turn trivial) ?_⟩
        have old : ∀ c ns, H1 c = some (.tup ns) → ¬ Msk (fun b => P' b ∨ b = D) α1 e σ c → upd H1 D (SetTO P w D L') c = some (.tup ns) := fun c ns q n => by
          rw [upd_ne (fun z => n (.inl (.inr z)))]
          exact q
        by_cases h : p ∈ acc
        · rw [if_pos h]
          have e1 := c1 (mem.mpr h)
          subst e1
          exact ⟨⟨L', upd_same, fun q hq => ⟨(hL q hq).1, old _ _ (hL q hq).2 (hL q hq).1⟩, pm⟩, Nat.le_of_lt h60.1, lo⟩
        · rw [if_neg h]
          have pm2 := c2 (fun z => h (mem.mp z))
          refine ⟨⟨L', upd_same, fun q hq => ?_, ?_⟩, by simp; omega, fun q hq => ?_⟩
          · rcases List.mem_cons.mp (pm2.mem_iff.mp hq) with rfl | hq
            · exact ⟨nb, old _ _ hb nb⟩
            · exact ⟨(hL q hq).1, old _ _ (hL q hq).2 (hL q hq).1⟩
          · rw [List.map_append]
            have q := pm2.map (fun x : Addr × List Int => x.2)
            rw [List.map_cons] at q
            exact (q.trans (pm.cons (rwP p))).trans (List.perm_append_singleton (rwP p) (acc.map rwP)).symm
          · rcases List.mem_append.mp hq with hq | hq
            · exact lo q hq
            · rw [List.mem_singleton.mp hq]; exact h60.2
      · cases hp
    · cases hp
  · cases hp
end DL
/-! ### sorted({x for ..}), len({..}): the rules -/
namespace DL
open PySem PySem.Spec PyProof.Rows L2 PySem.W
def xSrtI (vs : List Nat) (it : I1) (g : G1) (t : T1) (x : X1) : X1 := fun e w => if okW e vs then match it e w with
  | some (ds, w1) => match gaGo g t (pxI x) (wipeE e vs) ds [] w1 with
    | some (acc, w2) => some (.v (.list ((setD acc).map .int)), w2)
    | none => none
  | none => none
  else none
def xSrtP (vs : List Nat) (it : I1) (g : G1) (t : T1) (x : X1) : X1 := fun e w => if okW e vs then match it e w with
  | some (ds, w1) => match gaGo g t (pxP x) (wipeE e vs) ds [] w1 with
    | some (acc, w2) => some (.v (.list ((setP acc).map dOf)), w2)
    | none => none
  | none => none
  else none
theorem sz_I {x : X1} {e : DE} {w w' : Wd} {acc acc' : List Int} (h : pxI x e w acc = some (acc', w')) : acc'.length ≤ acc.length + 1 := by
  unfold pxI at h
  split at h
  · split at h
    · cases h
      split <;> simp
    · cases h
  · cases h
theorem sz_P {x : X1} {e : DE} {w w' : Wd} {acc acc' : List (Int × Int)} (h : pxP x e w acc = some (acc', w')) : acc'.length ≤ acc.length + 1 := by
  unfold pxP at h
  split at h
  · split at h
    · split at h
      · cases h
        split <;> simp
      · cases h
    · cases h
  · cases h
section
variable {X : Cx}
theorem d_srtI {elt tg iter : Expr} {ifs : List Expr} {scope : Scope} {own : List (Str × Nat)} {p pos pos1 : Pos} {wi : TI} {it : I1} {gt : TG} {g : G1} {t : T1} {x : X1} {vs' : List Nat} (hc : X.calm = true) (hgl : Gl X "sorted") (hm : X.mg "sorted" = none) (hN : X.N.Nodup) (hi : PI X tg iter wi) (so : SrcOw wi it) (ok : BlkOk X.N X.env.scope scope own)
    (hg : ∀ (s : Shared) (H : Hp) (C : Addr) (cl : List (Str × Addr)) (fp : List Addr), PG (X.blk s H scope (compEnvC scope cl C X.env) fp) tg gt) (gd : GD gt g vs') (hvs : ∀ i ∈ vs', i ∈ own.map (·.2))
    (ht : ∀ (s : Shared) (H : Hp) (C : Addr) (cl : List (Str × Addr)) (fp : List Addr), PTs (X.blk s H scope (compEnvC scope cl C X.env) fp) ifs (tDT t))
    (he : ∀ (s : Shared) (H : Hp) (C : Addr) (cl : List (Str × Addr)) (fp : List Addr), PE (X.blk s H scope (compEnvC scope cl C X.env) fp) elt (tD x)) (hs : ∀ x, foldedSetIterable iter X.env x = pure x := by intro _; rfl)
    (na : starEach [.SetComp elt [⟨tg, iter, ifs, 0⟩] scope pos1] X.env = (false, eval (.SetComp elt [⟨tg, iter, ifs, 0⟩] scope pos1) X.env) :: starEach [] X.env := by rfl) (ha : (backTo pos (starEach [] X.env)).any (·.1) = false := by rfl) :
    PE X (.Call (.Name "sorted" p) [.SetComp elt [⟨tg, iter, ifs, 0⟩] scope pos1] [] pos) (tD (xSrtI (own.map (·.2)) it g t x)) :=
  (pe_callB (cr_sortedSet hc) hgl hm boot_sorted_ (pa_cons (pe_ga (o0 := fun D => SetO X.w D (fun _ => false) 0) (mb := mbS X elt) (tb := tbI X.w (tD x)) (scope := scope) (pos' := firstIterPos [⟨tg, iter, ifs, 0⟩] pos1) (ga_s (.inl rfl)) rfl hc hN hi ok hg ht (fun s H C cl fp => run_i (X := X.blk s H scope (compEnvC scope cl C X.env) fp) rfl (he s H C cl fp)) hs) pa_nil na) (by decide) (by decide) na ha).imp fun σ H Q q => by
    obtain ⟨P, α, e, w, r, wE, R, hf, k⟩ := q
    unfold xSrtI at hf
    by_cases hk' : okW e (own.map (·.2)) = true
    case neg => rw [if_neg hk'] at hf; cases hf
    rw [if_pos hk'] at hf
    split at hf
    · rename_i items w1 h1
      split at hf
      · rename_i acc w2 h2
        cases hf
        show tGa (fun D => SetO X.w D (fun _ => false) 0) wi gt (tDT t) (tbI X.w (tD x)) (own.map (·.2)) σ H fun v H1 => rSortedSet X.w [v] H1 Q
        refine ga_step (o0 := fun D => SetO X.w D (fun _ => false) 0) (acc0 := ([] : List Int)) so gd hvs (keeps_I (w := X.w)) puts_I (fun _ => trivial) (fun M H D h => ⟨by rw [upd_same]; simp, Nat.zero_le _⟩) rfl (fun e w acc acc' w' h => sz_I h) R hk' h1 h2 fun D H' α' u hD R' nP a hz => ?_
        refine ⟨D, _, _, rfl, a.1, by have := a.2; omega, fun ns p pw mem len hp => ?_⟩
        obtain rfl : ns = setD acc := sorted_one pw (setD_pw acc) fun k => by rw [mem, setD_mem]; simp
        have R2 : Rel P α' e wE σ H' := R'.lessP fun b => .inl
        have sm : Same H' (upd H' p (.lst ((setD acc).map V.int))) := same_upd hp
        refine k _ _ α' (u.trans (.of_same sm)) (R2.same sm) (new_lst R2.mut hp (dva_ints _) ?_)
        rw [List.length_map]
        have := a.2
        show (setD acc).length ≤ 1000000
        omega
      · cases hf
    · cases hf
theorem setP_congr {ps qs : List (Int × Int)} (h : ∀ p, p ∈ ps ↔ p ∈ qs) : setP ps = setP qs := by
  unfold setP
  congr 1
  refine sorted_one (setD_pw _) (setD_pw _) fun k => ?_
  rw [setD_mem, setD_mem, List.mem_map, List.mem_map]
  exact ⟨fun ⟨p, a, b⟩ => ⟨p, (h p).mp a, b⟩, fun ⟨p, a, b⟩ => ⟨p, (h p).mpr a, b⟩⟩
theorem d_srtP {elt tg iter : Expr} {ifs : List Expr} {scope : Scope} {own : List (Str × Nat)} {p pos pos1 : Pos} {wi : TI} {it : I1} {gt : TG} {g : G1} {t : T1} {x : X1} {vs' : List Nat} (hc : X.calm = true) (hu : X.A.units + 1 < cLine) (hgl : Gl X "sorted") (hm : X.mg "sorted" = none) (hN : X.N.Nodup) (hi : PI X tg iter wi) (so : SrcOw wi it) (ok : BlkOk X.N X.env.scope scope own)
    (hg : ∀ (s : Shared) (H : Hp) (C : Addr) (cl : List (Str × Addr)) (fp : List Addr), PG (X.blk s H scope (compEnvC scope cl C X.env) fp) tg gt) (gd : GD gt g vs') (hvs : ∀ i ∈ vs', i ∈ own.map (·.2))
    (ht : ∀ (s : Shared) (H : Hp) (C : Addr) (cl : List (Str × Addr)) (fp : List Addr), PTs (X.blk s H scope (compEnvC scope cl C X.env) fp) ifs (tDT t))
    (he : ∀ (s : Shared) (H : Hp) (C : Addr) (cl : List (Str × Addr)) (fp : List Addr), PE (X.blk s H scope (compEnvC scope cl C X.env) fp) elt (tD x)) (hs : ∀ x, foldedSetIterable iter X.env x = pure x := by intro _; rfl)
    (na : starEach [.SetComp elt [⟨tg, iter, ifs, 0⟩] scope pos1] X.env = (false, eval (.SetComp elt [⟨tg, iter, ifs, 0⟩] scope pos1) X.env) :: starEach [] X.env := by rfl) (ha : (backTo pos (starEach [] X.env)).any (·.1) = false := by rfl) :
    PE X (.Call (.Name "sorted" p) [.SetComp elt [⟨tg, iter, ifs, 0⟩] scope pos1] [] pos) (tD (xSrtP (own.map (·.2)) it g t x)) :=
  (pe_callB (cr_sortedT hc) hgl hm boot_sorted_ (pa_cons (pe_ga (o0 := fun D => SetTO X.prog X.w D []) (mb := mbS X elt) (tb := tbP X.prog X.w (tD x)) (scope := scope) (pos' := firstIterPos [⟨tg, iter, ifs, 0⟩] pos1) (ga_s (.inr rfl)) rfl hc hN hi ok hg ht (fun s H C cl fp => run_p (X := X.blk s H scope (compEnvC scope cl C X.env) fp) rfl hu (he s H C cl fp)) hs) pa_nil na) (by decide) (by decide) na ha).imp fun σ H Q q => by
    obtain ⟨P, α, e, w, r, wE, R, hf, k⟩ := q
    unfold xSrtP at hf
    by_cases hk' : okW e (own.map (·.2)) = true
    case neg => rw [if_neg hk'] at hf; cases hf
    rw [if_pos hk'] at hf
    split at hf
    · rename_i items w1 h1
      split at hf
      · rename_i acc w2 h2
        cases hf
        show tGa (fun D => SetTO X.prog X.w D []) wi gt (tDT t) (tbP X.prog X.w (tD x)) (own.map (·.2)) σ H fun v H1 => rSortedT X.K X.prog X.w [v] H1 Q
        refine ga_step (o0 := fun D => SetTO X.prog X.w D []) (acc0 := ([] : List (Int × Int))) so gd hvs (keeps_P (P := X.prog) (w := X.w)) puts_P (fun _ => trivial) (fun M H D h => ⟨⟨[], upd_same, (fun p hp => nomatch hp), .nil⟩, Nat.zero_le _, (fun p hp => nomatch hp)⟩) rfl (fun e w acc acc' w' h => sz_P h) R hk' h1 h2 fun D H' α' u hD R' nP a hz => ?_
        obtain ⟨⟨L, hL, hk, pm⟩, h60, lo⟩ := a
        have row : ∀ q ∈ L, ∃ r ∈ acc, q.2 = [r.1, r.2] := fun q hq => by
          obtain ⟨r, hr, e⟩ := List.mem_map.mp (pm.mem_iff.mp (List.mem_map_of_mem (f := fun z : Addr × List Int => z.2) hq))
          exact ⟨r, hr, e.symm⟩
        refine ⟨D, L, 2, 64, rfl, hL, fun q hq => .inl (.inl (hk q hq).2), by decide, fun q hq => ?_, fun L' p pm2 nd hf pw hp => ?_⟩
        · obtain ⟨r, hr, e⟩ := row q hq
          rw [e]
          obtain ⟨b1, b2, b3, b4⟩ := lo r hr
          refine ⟨rfl, fun i hi => ?_⟩
          simp only [List.mem_cons, List.not_mem_nil, or_false] at hi
          rcases hi with rfl | rfl
          · exact ⟨b1, b2⟩
          · exact ⟨b3, b4⟩
        have er : L'.map (·.2) = (setP acc).map fun p => [p.1, p.2] := rows_eq lo (fun r => by
          rw [(pm2.map fun z : Addr × List Int => z.2).mem_iff, pm.mem_iff]
          exact Iff.rfl) nd (List.pairwise_map.mpr pw)
        have R2 : Rel P α' e wE σ H' := R'.lessP fun b => .inl
        have sm : Same H' (upd H' p (.lst (L'.map fun q => V.ref q.1))) := same_upd hp
        refine k _ _ α' (u.trans (.of_same sm)) (R2.same sm) (new_lst R2.mut hp (rows_dv (fun q hq => ⟨fun m => (hk q (pm2.mem_iff.mp hq)).1 (Msk.more m), (hk q (pm2.mem_iff.mp hq)).2⟩) er) ?_)
        rw [List.length_map]
        have := setP_len acc
        show (setP acc).length ≤ 1000000
        omega
      · cases hf
    · cases hf
end
end DL
/-! ### dict([((a, b), v), ..]) -/
namespace DL
open PySem PySem.Spec PyProof.Rows L2 PySem.W
def mergeT (kvs : List (List Key × V)) : List (List Key × V) → List (List Key × V)
  | [] => kvs
  | p :: r => mergeT (putK kvs p.1 p.2) r
theorem mergeT_len : ∀ (ps kvs : List (List Key × V)), (mergeT kvs ps).length ≤ kvs.length + ps.length
  | [], kvs => Nat.le_refl _
  | p :: r, kvs => by
    have h1 := mergeT_len r (putK kvs p.1 p.2)
    have h2 := length_putK kvs p.1 p.2
    unfold mergeT
    rw [List.length_cons]
    omega
theorem kt_merge {H : Hp} : ∀ {ps kvs : List (List Key × V)} {xs ys : List (List Key × Addr × Value)}, KT H kvs xs → KT H ps ys → KT H (mergeT kvs ps) (storedAllH xs ys)
  | _, _, _, _, r, .nil => r
  | _, _, _, _, r, .cons (a := p) (b := q) h t => by
    obtain ⟨h1, h2, h3⟩ := h
    have := kt_merge (r.put p.1 h2 h3) t
    rw [h1] at this
    unfold mergeT
    rw [h1]
    exact this
/-- what stands in the list: pairs of a tuple key and something -/
def PrT (H : Hp) (p : Addr) (kv : List Key × V) : Prop := ∃ b, H p = some (.tup [.ref b, kv.2]) ∧ H b = some (.tup (kv.1.map kV))
def rDictT : List V → Hp → VK → Prop := fun xs H Q => ∃ (a : Addr) (ps : List Addr) (kvs : List (List Key × V)), xs = [.ref a] ∧ Rd H a (.lst (ps.map V.ref)) ∧ Paired (PrT H) ps kvs ∧ ps.length ≤ LIM ∧ ∀ p, H p = none → Q (.ref p) (upd H p (.dT (mergeT [] kvs)))
theorem cr_dictT {X : Cx} (hc : X.calm = true) (hu : X.A.units + 10 < cLine) : CallR X (.type "dict") rDictT := by
  intro pins s σ H xs us Q I r q
  obtain ⟨a, ps, kvs, rfl, ha, hp, hl, q⟩ := q
  rw [Vals.ref1 r]
  obtain ⟨its, rv, pl, hz⟩ := I.list (.inl ha)
  have ei : its = ps.map Value.ref := refs_at rv
  subst ei
  -- the pairs as they lie
  have key : ∀ {ps : List Addr} {kvs : List (List Key × V)}, Paired (PrT H) ps kvs → ∃ (ys : List (List Key × Addr × Value)), KT H kvs ys ∧ ys.length = ps.length ∧ ∀ (j : Nat) (y : List Key × Addr × Value), ys[j]? = some y → ∃ p, ps[j]? = some p ∧ s.heap.IsTuple p #[.ref y.2.1, y.2.2] := by
    intro ps kvs h
    induction h with
    | nil => exact ⟨[], .nil, rfl, fun j y h => by simp at h⟩
    | @cons p kv ps kvs h t ih =>
      obtain ⟨ys, h1, h2, h3⟩ := ih
      obtain ⟨b, hb1, hb2⟩ := h
      obtain ⟨it2, rv2, ht, _⟩ := I.tuple (SqT.of hb1)
      obtain ⟨u, y, e, ru, ry⟩ := vals2 rv2
      subst e
      cases (show u = Value.ref b from ru)
      refine ⟨(kv.1, b, y) :: ys, .cons ⟨rfl, hb2, ry⟩ h1, by rw [List.length_cons, List.length_cons, h2], fun j z hz => ?_⟩
      cases j with
      | zero => cases hz; exact ⟨p, rfl, ht⟩
      | succ j =>
        obtain ⟨p', e1, e2⟩ := h3 j z (by simpa using hz)
        exact ⟨p', by simpa using e1, e2⟩
  obtain ⟨ys, kt, yl, hy⟩ := key hp
  have hln : ys.length ≤ sizeLine := by rw [yl]; exact lim_le hl
  have hlen : kvs.length = ps.length := (Paired.length hp).symm
  obtain ⟨o, n, ho, hcl, hd, hdat⟩ := pl
  let prs : List (Value × Value) := ys.map fun y => (Value.ref y.2.1, y.2.2)
  have keys : ∀ {h' : Heap}, (∀ b u, s.heap.get? b = some u → h'.get? b = some u) → ∀ y ∈ ys, (tupleKind (mixKind X.prog X.w)).is h' y.1 y.2.1 := by
    intro h' keep
    have ok := I.hok.kept keep
    have all : ∀ {l : List (List Key × V)} {m : List (List Key × Addr × Value)}, KT H l m → ∀ x ∈ m, (tupleKind (mixKind X.prog X.w)).is h' x.1 x.2.1 := by
      intro l m q
      induction q with
      | nil => intro x hx; exact nomatch hx
      | @cons p q ps qs hq t ih =>
        intro x hx
        rcases List.mem_cons.mp hx with e | hx
        · subst e
          exact key_of ok (by rw [← hq.1]; exact hq.2.1)
        · exact ih x hx
    exact all kt
  have mlen := mergeT_len kvs []
  refine PySem.call_dict_pairsH (knd := tupleKind (mixKind X.prog X.w)) (ps := ys) (PairArg.list a (ps.map Value.ref).toArray (fun j => ps.getD j 0) prs) (I.ok.hd hc) (show X.A.units + 1 + 1 < cLine by omega) ⟨⟨o, n, ho, hcl, hd, hdat⟩, by simp [prs, yl], fun j k v h => ?_⟩ ⟨by simp [prs], fun i k v h => ?_⟩ (fun h' keep y hy' => ?_) (by simpa [prs] using hln) fun h' tk hD keep => ?_
  · obtain ⟨y, h1, h2⟩ := List.getElem?_map .. ▸ h |> Option.map_eq_some_iff.mp
    cases h2
    obtain ⟨p, e1, e2⟩ := hy j y h1
    have e3 : ps.getD j 0 = p := by rw [List.getD_eq_getElem?_getD, e1]; rfl
    refine ⟨by simp [e1, e3], .inl ?_⟩
    show s.heap.IsTuple (ps.getD j 0) _
    rw [e3]
    exact e2
  · obtain ⟨y, h1, h2⟩ := List.getElem?_map .. ▸ (show prs[i]? = some (k, v) from h) |> Option.map_eq_some_iff.mp
    cases h2
    exact ⟨y.1, y.2.1, h1, rfl⟩
  · exact keys (fun b u e => keep b u (Nat.ne_of_lt (Heap.lt_size e)) (fun m => nomatch m) e) y hy'
  · have keep' : ∀ b u, s.heap.get? b = some u → h'.get? b = some u := fun b u e => keep b u (fun m => nomatch m) e
    have hn : H s.heap.objs.size = none := I.hok.fresh (Nat.le_refl _)
    have zl : (mergeT [] kvs).length ≤ sizeLine := by
      have := lim_le hl
      rw [List.length_nil] at mlen
      omega
    refine ⟨.ref s.heap.objs.size, _, I.laid (t' := tk) keep' (Nat.le_refl _) ?_, rfl, q _ hn⟩
    obtain ⟨o2, es, ep, q1, q2, q3, q4, _, q5⟩ := hD
    refine ⟨zl, beq_eq_false_iff_ne.mpr (Ne.symm (Nat.ne_of_lt I.big)), _, (kt_merge .nil kt).keeps fun c zs ec => ?_, o2, es, ep, q1, q2, q3, q4, q5⟩
    rw [upd_ne]
    · exact ec
    · intro z
      rw [z, hn] at ec
      cases ec
/-- pairs of a tuple key and something, as data -/
def kvsT : List PyData → Option (List (List Key × PyData))
  | [] => some []
  | .tuple [k, v] :: r => match keyT k, kvsT r with
    | some ks, some l => some ((ks, v) :: l)
    | _, _ => none
  | _ :: _ => none
def mergeTD (kvs : List (List Key × PyData)) : List (List Key × PyData) → List (List Key × PyData)
  | [] => kvs
  | p :: r => mergeTD (putTD kvs p.1 p.2) r
theorem kvg_merge {M : Addr → Prop} {H : Hp} : ∀ {ps : List (List Key × V)} {pd : List (List Key × PyData)} {vs : List (List Key × V)} {kvs : List (List Key × PyData)}, KVg M H ps pd → KVg M H vs kvs → KVg M H (mergeT vs ps) (mergeTD kvs pd)
  | _, _, _, _, .nil, h => h
  | _, _, _, _, .cons (a := q) (b := p) a t, h => by
    have := kvg_merge t (kvt_put (k := p.1) a.2 h)
    unfold mergeT mergeTD
    rw [a.1]
    exact this
theorem prs_of {M : Addr → Prop} {H : Hp} : ∀ {ds : List PyData} {xs : List V} {kds : List (List Key × PyData)}, DvA M H xs ds → kvsT ds = some kds → ∃ (ps : List Addr) (kvs : List (List Key × V)), xs = ps.map V.ref ∧ Paired (PrT H) ps kvs ∧ KVg M H kvs kds ∧ ps.length = ds.length
  | [], _, _, h, e => by
    cases e
    cases h
    exact ⟨[], [], rfl, .nil, .nil, rfl⟩
  | d :: r, _, kds, h, e => by
    unfold kvsT at e
    split at e
    · rename_i q; cases q
    · rename_i k v r' q
      simp only [List.cons.injEq] at q
      obtain ⟨rfl, rfl⟩ := q
      split at e
      · rename_i ks l h1 h2
        cases e
        cases h with
        | cons a b =>
          obtain ⟨ps, kvs, rfl, hp, hk, hl⟩ := prs_of b h2
          cases (show Dv _ _ _ (.tuple [k, v]) from a) with
          | atm q => cases q
          | @tup T ys _ nm rd0 lm q =>
            cases q with
            | cons c e =>
              cases e with
              | cons f g =>
                cases g
                obtain ⟨kb, rfl, hkb⟩ := keyT_ok (.inl c) h1
                exact ⟨T :: ps, (ks, _) :: kvs, rfl, .cons ⟨kb, rd0, hkb⟩ hp, .cons ⟨rfl, f⟩ hk, by rw [List.length_cons, List.length_cons, hl]⟩
      · cases e
    · cases e
/-- dict(pairs) as a new shared thing -/
def xDictT (f : X1) : X1 := fun e w => match f e w with
  | some (.v (.list ds), w1) => match kvsT ds with
    | some kds => some (.obj w1.length, w1 ++ [.dtt (mergeTD [] kds)])
    | none => none
  | _ => none
theorem d_dictT {X : Cx} {x : Expr} {f : X1} {p pos : Pos} (hu : X.A.units + 64 < cLine) (hc : X.calm = true) (hg : Gl X "dict") (hm : X.mg "dict" = none) (a : PE X x (tD f))
    (he : starEach [x] X.env = (false, eval x X.env) :: starEach [] X.env := by rfl) (hpl : (backTo pos (starEach [] X.env)).any (·.1) = false := by rfl) :
    PE X (.Call (.Name "dict" p) [x] [] pos) (tD (xDictT f)) := (pe_callTy (cr_dictT hc (by omega)) hg hm boot_dict_ (pa_cons a pa_nil he) (by decide) (by decide) he hpl).imp fun σ H Q q => by
  obtain ⟨P, α, e, w, r, w', R, hf, k⟩ := q
  unfold xDictT at hf
  split at hf
  · rename_i ds w1 h1
    split at hf
    · rename_i kds h2
      cases hf
      refine ⟨P, α, e, w, _, w1, R, h1, fun v H1 α1 u1 R1 i1 => ?_⟩
      have dv : Dv (Msk P α1 e σ) H1 v (.list ds) := i1
      obtain ⟨b, xs, rfl, rd, q, hl⟩ := Dv0.lst (.inl dv)
      obtain ⟨ps, kvs, rfl, hp, hk, hln⟩ := prs_of q h2
      refine ⟨b, ps, kvs, rfl, rd, hp, by rw [hln]; exact hl, fun c hc => ?_⟩
      obtain ⟨R2, u2⟩ := R1.objNew (o := .dtt (mergeTD [] kds)) (u := .dT (mergeT [] kvs)) hc trivial fun M' H' k1 k2 e => ⟨_, e, kvg_merge (pmapQ hk fun p q z => ⟨z.1, z.2.up (fun c q h _ => k1 c q h) k2⟩) .nil⟩
      refine k _ _ _ (u1.trans u2) R2 ⟨c, ?_, rfl⟩
      rw [← R1.al, List.getElem?_append_right (Nat.le_refl _)]
      simp
    · cases hf
  · cases hf
end DL
/-! ### sorted(set(l)), l a long list of few unlike numbers -/
namespace DL
open PySem PySem.Spec PyProof.Rows L2
theorem setR_many {w : World} {h : Heap} {a : Addr} {ns : List Int} {c : Nat} (R : SetR w h a (fun j => decide (j ∈ ns)) c) : c = (setD ns).length := by
  obtain ⟨o, es, ep, t, _, _, _, _, nd, mem, _, _, hc, _⟩ := R
  have nd2 : (setD ns).Nodup := (setD_pw ns).imp fun h e => by subst e; omega
  have := (List.perm_ext_iff_of_nodup nd nd2).mpr fun k => by rw [← mem k, setD_mem, decide_eq_true_eq]
  have := this.length_eq
  rw [List.length_map, Array.length_toList, hc] at this
  exact this
section
variable {X : Cx}
def rSetMany (K : PySem.W.Frag) (w : World) : List V → Hp → VK → Prop := fun xs H Q => ∃ (l : Addr) (ns : List Int), xs = [.ref l] ∧ SqL K H l (ns.map V.int) ∧ ns.length < 4000 ∧ ∀ p, H p = none → Q (.ref p) (upd H p (SetO w p (fun j => decide (j ∈ ns)) (setD ns).length))
theorem cr_setMany (hc : X.calm = true) : CallR X (.type "set") (rSetMany X.K X.w) := by
  intro pins s σ H xs us Q I r h
  obtain ⟨l, ns, rfl, hs, hl, q⟩ := h
  obtain ⟨its, rv, pl, _⟩ := I.list hs
  rw [Vals.ref1 r]
  refine call_set_nums ns (I.ok.hd hc) pl.isList (by simpa using rv.ints) (Nat.lt_of_lt_of_le (show ns.length + 1 < 4096 by omega) (by decide)) fun h1 tk c R le kp => ?_
  obtain rfl := setR_many R
  exact ⟨.ref _, upd H s.heap.objs.size (SetO X.w s.heap.objs.size (fun j => decide (j ∈ ns)) (setD ns).length), I.laid (t' := tk) kp (Nat.le_refl _) (setO_new R), rfl, q _ (I.hok.fresh (Nat.le_refl _))⟩
def gSortSetM : PyData → Option PyData
  | .list ds => match intsD ds with
    | some ns => if ns.length < 4000 ∧ (setD ns).length < 60 then some (.list ((setD ns).map .int)) else none
    | none => none
  | _ => none
theorem p_sortSetM {K : PySem.W.Frag} {w : World} : Pure1 (fun v H Q => rSetMany K w [v] H fun v2 H2 => rSortedSet w [v2] H2 Q) gSortSetM := fun M H x d z Q hm hx hg k => by
  match d, hx, hg with
  | .list ds, hx, hg =>
    unfold gSortSetM at hg
    simp only at hg
    cases h1 : intsD ds with
    | none => simp [h1] at hg
    | some ns =>
      simp only [h1] at hg
      by_cases h2 : ns.length < 4000 ∧ (setD ns).length < 60
      case neg => rw [if_neg h2] at hg; cases hg
      rw [if_pos h2] at hg
      cases hg
      obtain ⟨t, xs, rfl, rd, q, l⟩ := hx.lst
      rw [intsD_eq h1] at q
      rw [ints_v q] at rd
      have hs := h2.2
      refine ⟨t, ns, rfl, .inl rd, h2.1, fun p hp => ⟨p, _, (setD ns).length, rfl, upd_same, by omega, fun ms p2 h3 h4 h5 hp2 => ?_⟩⟩
      obtain rfl : ms = setD ns := sorted_one h3 (setD_pw ns) fun k => by rw [h4, setD_mem]; simp
      have sm1 : Same H (upd H p (SetO w p (fun j => decide (j ∈ ns)) (setD ns).length)) := same_upd hp
      have sm2 := same_upd (o := .lst ((setD ns).map V.int)) hp2
      have hH : H p2 = none := by
        by_cases hb : p2 = p
        · rw [hb]; exact hp
        · rw [upd_ne hb] at hp2; exact hp2
      refine k _ _ (fun b o e => sm2 b o (sm1 b o e)) (.lst (fresh_mut hm hH) (.inl upd_same) ?_ (dva_ints _))
      rw [List.length_map]
      show (setD ns).length ≤ 1000000
      omega
end
section
variable {X : Cx} {x : Expr} {pos : Pos} {f : X1}
def gSortSetC (d : PyData) : Option PyData := match gSortSetB d with
  | some z => some z
  | none => gSortSetM d
theorem d_sortSetC {p q pos2 : Pos} (hu : X.A.units + 64 < cLine) (hc : X.calm = true) (hg : Gl X "sorted") (hm : X.mg "sorted" = none) (hg2 : Gl X "set") (hm2 : X.mg "set" = none) (a : PE X x (tD f))
    (na : starEach [.Call (.Name "set" q) [x] [] pos2] X.env = (false, eval (.Call (.Name "set" q) [x] [] pos2) X.env) :: starEach [] X.env := by rfl) (nb : starEach [x] X.env = (false, eval x X.env) :: starEach [] X.env := by rfl)
    (ha : (backTo pos (starEach [] X.env)).any (·.1) = false := by rfl) (hb : (backTo pos2 (starEach [] X.env)).any (·.1) = false := by rfl) :
    PE X (.Call (.Name "sorted" p) [.Call (.Name "set" q) [x] [] pos2] [] pos) (tD (x1 gSortSetC f)) :=
  ⟨fun pins s σ H Q I h => by
    obtain ⟨P, α, e, w, r, w', R, hf, k⟩ := h
    rcases x1_or (g1 := gSortSetB) hf with z | z
    · exact (d_sortSetB hu hc hg hm hg2 hm2 a na nb ha hb).run pins s σ H Q I ⟨P, α, e, w, r, w', R, z, k⟩
    · exact ((pe_callB (cr_sortedSet hc) hg hm boot_sorted_ (pa_cons (pe_callTy (cr_setMany hc) hg2 hm2 boot_set_ (pa_cons a pa_nil nb) (by decide) (by decide) nb hb) pa_nil na) (by decide) (by decide) na ha).imp fun σ H Q q => step1 p_sortSetM q).run pins s σ H Q I ⟨P, α, e, w, r, w', R, z, k⟩⟩
theorem sortC_B {d z : PyData} (h : gSortSetB d = some z) : gSortSetC d = some z := by unfold gSortSetC; rw [h]
end
end DL
/-! ### sorted(d), d a dict with few numbers as keys -/
namespace DL
open PySem PySem.Spec PyProof.Rows L2 PySem.W
def numsK : List (Key × PyData) → Option (List Int)
  | [] => some []
  | (.inl i, _) :: r => (numsK r).map (i :: ·)
  | _ :: _ => none
theorem numsK_eq : ∀ {kvs : List (Key × PyData)} {ks : List Int}, numsK kvs = some ks → kvs.map (·.1) = ks.map Sum.inl
  | [], _, h => by cases h; rfl
  | (.inl i, d) :: r, ks, h => by
    unfold numsK at h
    cases q : numsK r with
    | none => rw [q] at h; cases h
    | some l =>
      rw [q] at h
      cases h
      rw [List.map_cons, numsK_eq q]
      rfl
  | (.inr x, d) :: r, _, h => by cases h
def sInts (ns : List Int) : List Int := ns.mergeSort fun a b => decide (a ≤ b)
theorem sInts_pw (ns : List Int) : (sInts ns).Pairwise (· ≤ ·) := by
  have := List.pairwise_mergeSort (le := fun a b : Int => decide (a ≤ b)) (fun a b c h1 h2 => by simp only [decide_eq_true_eq] at *; omega) (fun a b => by simp only [Bool.or_eq_true, decide_eq_true_eq]; omega) ns
  exact this.imp fun h => by simpa using h
theorem sInts_eq : ∀ {xs ys : List Int}, xs.Perm ys → xs.Pairwise (· ≤ ·) → ys.Pairwise (· ≤ ·) → xs = ys
  | [], ys, p, _, _ => (List.nil_perm.mp p).symm
  | x :: xs, [], p, _, _ => by have := p.length_eq; simp at this
  | x :: xs, y :: ys, p, h1, h2 => by
    have e : x = y := by
      have a1 : y ≤ x := by
        rcases List.mem_cons.mp (p.mem_iff.mp (List.mem_cons_self ..) : x ∈ y :: ys) with h | h
        · omega
        · exact (List.pairwise_cons.mp h2).1 x h
      have a2 : x ≤ y := by
        rcases List.mem_cons.mp (p.mem_iff.mpr (List.mem_cons_self ..) : y ∈ x :: xs) with h | h
        · omega
        · exact (List.pairwise_cons.mp h1).1 y h
      omega
    subst e
    rw [sInts_eq (List.perm_cons x |>.mp p) (List.pairwise_cons.mp h1).2 (List.pairwise_cons.mp h2).2]
/-- sorted(d) -/
def xSortN (f : X1) : X1 := fun e w => match f e w with
  | some (.obj n, w1) => match w1[n]? with
    | some (.dct kvs) => match numsK kvs with
      | some ks => if ks.length < 64 then some (.v (.list ((sInts ks).map .int)), w1) else none
      | none => none
    | _ => none
  | _ => none
section
variable {X : Cx} {x : Expr} {pos : Pos} {f : X1}
theorem d_sortN {p : Pos} (hc : X.calm = true) (hg : Gl X "sorted") (hm : X.mg "sorted" = none) (ha : PE X x (tD f)) (he : starEach [x] X.env = (false, eval x X.env) :: starEach [] X.env := by rfl) (hpl : (backTo pos (starEach [] X.env)).any (·.1) = false := by rfl) :
    PE X (.Call (.Name "sorted" p) [x] [] pos) (tD (xSortN f)) := (pe_callB (call_sortedDI hc) hg hm boot_sorted_ (pa_cons ha pa_nil he) (by decide) (by decide) he hpl).imp fun σ H Q q => by
  obtain ⟨P, α, e, w, r, w', R, hf, k⟩ := q
  unfold xSortN at hf
  split at hf
  · rename_i n w1 h1
    split at hf
    · rename_i kvs h2
      split at hf
      · rename_i ks h3
        split at hf
        · rename_i h64
          cases hf
          refine ⟨P, α, e, w, _, w', R, h1, fun v H1 α1 u1 R1 i1 => ?_⟩
          obtain ⟨a, ha, rfl⟩ := i1
          obtain ⟨vs, hb, pr⟩ := R1.ob n _ a h2 ha
          refine ⟨a, vs, ks, rfl, .inl hb, (kvg_keys pr).trans (numsK_eq h3), h64, fun ys p pm pw hp => ?_⟩
          obtain rfl : ys = sInts ks := sInts_eq (pm.trans (List.mergeSort_perm _ _).symm) pw (sInts_pw ks)
          have sm : Same H1 (upd H1 p (.lst ((sInts ks).map V.int))) := same_upd hp
          refine k _ _ α1 (u1.trans (.of_same sm)) (R1.same sm) (new_lst R1.mut hp (dva_ints _) ?_)
          rw [List.length_map]
          have : (sInts ks).length = ks.length := List.length_mergeSort ..
          show (sInts ks).length ≤ 1000000
          omega
        · cases hf
      · cases hf
    · cases hf
  · cases hf
end
/-! ### sorted(t), t a tuple -/
def rSortTp (K : PySem.W.Frag) : List V → Hp → VK → Prop := fun vs H Q => ∃ a xs ds, vs = [V.ref a] ∧ SqT K H a xs ∧ DvA (fun _ => False) H xs ds ∧ ds.length ≤ LIM ∧ sortOk ds = true ∧ ∀ ys p, (∀ M, DvA M H xs ds → DvA M H ys (sortD ds)) → H p = none → Q (.ref p) (upd H p (.lst ys))
section
variable {X : Cx}
theorem call_sortedTp (hu : X.A.units + 100 < cLine) : CallR X (.builtin "sorted") (rSortTp X.K) := by
  intro pins s σ H vs us Q I r h
  obtain ⟨a, xs, ds, rfl, ht, dv, hlim, ok, q⟩ := h
  rw [Vals.ref1 r]
  obtain ⟨its, rv, ⟨o, ho, hcl, n, hd⟩, hz⟩ := I.tuple ht
  have hln : its.length = ds.length := by rw [← rv.length]; exact dv.length
  have hal : its.length ≤ sizeLine := by rw [hln]; exact lim_le hlim
  refine Calls.call_function_entry PyProof.Rows.kind_sorted PyProof.Rows.plain_sorted PyProof.Rows.entry_sorted (PyProof.Rows.args_sorted1 _) ?_
  unfold Builtin.«sorted»
  refine wpAny_bind (m := checkCount "sorted" 1 1 _) (wpAny_pure ?_)
  refine wpAny_bind (wpAny_collect_seq a (.inr rfl) ho hcl hd (fun h' kp => ?_) (by simpa using hal))
  have I1 : Inv X pins σ H { s with heap := h' } := I.kept (t' := s.toks) kp
  have e0 : its.toArray.toList = its := by simp
  rw [e0]
  refine wpAny_bind (wpAny_newList ?_ hal)
  have hoL : (h'.push (seqObj "list" its.toArray 0)).get? h'.objs.size = some (seqObj "list" its.toArray 0) := Heap.get?_push_size _ rfl
  refine wpAny_bind (wpAny_holding (wpAny_call_entry PyProof.Rows.slot_list_sort ⟨_, hoL, rfl⟩ PyProof.Rows.entry_list_sort
    (sort_part (s := { s with heap := h' }) I1 (by show X.A.units + 1 + 1 + 70 < cLine; omega) rv dv hlim ok fun ys s3 I3 hy => ⟨_, rfl, ?_⟩) (PyProof.Rows.args_list_sort _)))
  exact wpAny_pure ⟨_, rfl, .ref h'.objs.size, _, I3, rfl, q ys _ hy (I1.hok.fresh (Nat.le_refl _))⟩
end
def gSortedTp : List PyData → Option PyData
  | [.tuple ds] => if sortOk ds then some (.list (sortD ds)) else none
  | _ => none
theorem p_sortedTp {K : PySem.W.Frag} : PureN (rSortTp K) gSortedTp := fun M H xs ds z Q hm hx hg k => by
  match ds, hx, hg with
  | [.tuple es], hx, hg =>
    by_cases ok : sortOk es = true
    · simp only [gSortedTp, ok, if_true] at hg
      cases hg
      obtain ⟨v, rfl, dv⟩ := one hx
      obtain ⟨a, ys, rfl, nm, rd, q, l⟩ := dv.tup
      refine ⟨a, ys, es, rfl, .inl rd, q.less fun b z => z.elim, l, ok, fun zs p hz hp => k _ _ (same_upd hp) (new_lst hm hp (hz M q) ?_)⟩
      show (sortD es).length ≤ LIM
      unfold sortD
      rw [List.length_mergeSort]
      exact l
    · simp [gSortedTp, ok] at hg
end DL
/-! ### sorted(d.items()), d a dict with numbers and texts as keys -/
namespace DL
open PySem PySem.Spec PyProof.Rows L2 PySem.W L2.DX
def rItK : V → List V → Hp → VK → Prop := fun x xs H Q => ∃ (a : Addr) (kvs : List (Key × V)), x = .ref a ∧ xs = [] ∧ H a = some (.dK kvs) ∧ ∀ p, H p = none → Q (.ref p) (upd H p (itemsO p a))
theorem mt_itK {X : Cx} : MtR X "dict.items" rItK := by
  intro pins s σ H x xs v us Q I rx rxs h
  obtain ⟨a, kvs, rfl, rfl, ha, q⟩ := h
  cases rx
  cases rxs
  obtain ⟨z, hd, vs, rel, o, es, ep, ho, hx, hdat, _⟩ := dk_of I.hok ha
  refine DT.callItems (es := es) (ep := ep) hd ⟨o, ho, hx, hdat⟩ ?_
  exact ⟨.ref s.heap.objs.size, upd H s.heap.objs.size (itemsO s.heap.objs.size a), I.laid (t' := s.toks) (fun b u e => Heap.get?_push_of_some _ e) (Nat.le_refl _) (itemsO_ok (Heap.get?_push_size _ rfl)), rfl, q _ (I.hok.fresh (Nat.le_refl _))⟩
/-- what the pairs of a dict read as -/
def ItD (M : Addr → Prop) (H : Hp) (q : Key × V) (d : PyData) : Prop := ∃ z, d = .tuple [keyD q.1, z] ∧ Dv M H q.2 z
def rSortIK : List V → Hp → VK → Prop := fun vs H Q => ∃ (p a : Addr) (kvs : List (Key × V)) (ds : List PyData), vs = [.ref p] ∧ H p = some (itemsO p a) ∧ H a = some (.dK kvs) ∧ Paired (ItD (fun _ => False) H) kvs ds ∧ ds.length ≤ LIM ∧ sortOk ds = true ∧
  ∀ (H' : Hp) (ys : List V) (l : Addr), Same H H' → H l = none → H' l = some (.lst ys) → (∀ M : Addr → Prop, (∀ b, M b → Mut (H b)) → Paired (ItD M H) kvs ds → DvA M H' ys (sortD ds)) → Q (.ref l) H'
theorem itd_dva {M : Addr → Prop} {H H' : Hp} (sm : Same H H') (hm : ∀ b, M b → Mut (H b)) : ∀ {as : List Addr} {kvs : List (Key × V)} {ds : List PyData}, Paired (ItD M H) kvs ds → as.length = kvs.length → (∀ (j : Nat) (b : Addr) (q : Key × V), as[j]? = some b → kvs[j]? = some q → H b = none ∧ H' b = some (.tup [kV q.1, q.2])) → DvA M H' (as.map V.ref) ds
  | [], _, _, .nil, _, _ => .nil
  | b :: as, q :: kvs, d :: ds, .cons h t, hl, hb => by
    obtain ⟨z, rfl, dv⟩ := h
    obtain ⟨h1, h2⟩ := hb 0 b q rfl rfl
    have hk : Dv M H' (kV q.1) (keyD q.1) := by
      cases q.1 with
      | inl i => exact .atm (.int i)
      | inr x => exact .atm (.str x)
    refine .cons (.tup (fresh_mut hm h1) h2 (show 2 ≤ 1000000 by decide) (.cons hk (.cons (dv.same sm) .nil))) (itd_dva sm hm t (by simpa using hl) fun j c q' e1 e2 => hb (j + 1) c q' (by simpa using e1) (by simpa using e2))
theorem call_sortedIK {X : Cx} (hc : X.calm = true) (hu : X.A.units + 100 < cLine) : CallR X (.builtin "sorted") rSortIK := by
  intro pins s σ H vs us Q I r h
  obtain ⟨p, a, kvs, ds, rfl, hp, ha, pr, hlim, ok, q⟩ := h
  obtain rfl := Vals.ref1 r
  have view : s.heap.IsItemsView p a := (show ObjOk X.prog X.w H s.heap p (itemsO p a) from I.hok p _ hp).1
  obtain ⟨z, hd, xs, rel, o, es, ep, ho, hx, hdat, _, hps, _⟩ := dk_of I.hok ha
  have l1 : kvs.length = xs.length := Paired.length rel
  have l2 : es.size = xs.length := by have := hps.length; rwa [Array.length_toList] at this
  have l3 : kvs.length = ds.length := Paired.length pr
  have lz := lim_le hlim
  refine DT.sortedI (es := es) (ep := ep) (I.ok.hd hc) view ⟨o, ho, hx, hdat⟩ (by omega) fun h' tk as hk hlt hl hG => ?_
  have lak : as.length = kvs.length := by omega
  have nd : as.Nodup := hG.rise.imp fun h => Nat.ne_of_lt h
  have I0 : Inv X pins σ H { s with heap := h', toks := tk } := I.kept hk
  -- the pairs that were made
  have pm : ∀ (j : Nat) (b : Addr), as[j]? = some b → ∃ (q : Key × V) (u y : Value), kvs[j]? = some q ∧ RelV (kV q.1) u ∧ RelV q.2 y ∧ h'.get? b = some { cls := .type "tuple", data := .seq #[u, y] } := by
    intro j b hj
    obtain ⟨en, he, hg⟩ := hG.pairs j b hj
    have hjl : j < kvs.length := by rw [← lak]; exact (List.getElem?_eq_some_iff.mp hj).1
    obtain ⟨x0, hx0, r1, r2⟩ := (show ∃ x0, xs[j]? = some x0 ∧ kvs[j].1 = x0.1 ∧ RelV kvs[j].2 x0.2 from by
      have hxl : j < xs.length := by omega
      refine ⟨xs[j], List.getElem?_eq_getElem hxl, ?_⟩
      obtain ⟨e0, he0, r⟩ := pget rel (List.getElem?_eq_getElem hxl)
      rw [List.getElem?_eq_getElem hjl] at he0
      cases he0
      exact r)
    obtain ⟨k0, v0⟩ := x0
    obtain ⟨e1, e2⟩ := hps.get? (by rw [Array.getElem?_toList]; exact he) hx0
    refine ⟨kvs[j], en.key, en.val, List.getElem?_eq_getElem hjl, ?_, by rw [e2]; exact r2, hg⟩
    have r1 : kvs[j].1 = k0 := r1
    rw [r1]
    rcases keyIs_shape (show keyIs k0 en.key = true from e1) with ⟨i, t, rfl, ek⟩ | ⟨x, t, rfl, ek⟩
    · rw [ek]; exact ⟨t, rfl⟩
    · rw [ek]; exact ⟨t, rfl⟩
  obtain ⟨H2, I2, g, qt⟩ := takeT (P := fun b vs => ∃ (j : Nat) (q : Key × V), as[j]? = some b ∧ kvs[j]? = some q ∧ vs = [kV q.1, q.2]) I as H I0 nd fun b hb => by
    obtain ⟨j, hj⟩ := List.mem_iff_getElem?.mp hb
    obtain ⟨q, u, y, e1, r1, r2, hg⟩ := pm j b hj
    have hbl : s.heap.objs.size ≤ b := Nat.le_of_lt (hG.above b hb)
    exact ⟨hbl, I.hok.fresh hbl, [kV q.1, q.2], ⟨j, q, hj, e1, rfl⟩, fun H3 => ⟨(by rw [sizeLine_eq]; show 2 ≤ 16777216; omega), [u, y], .cons r1 (.cons r2 .nil), ⟨_, hg, rfl, 0, rfl⟩⟩⟩
  have at2 : ∀ (j : Nat) (b : Addr) (q : Key × V), as[j]? = some b → kvs[j]? = some q → H b = none ∧ H2 b = some (.tup [kV q.1, q.2]) := fun j b q hj hq => by
    have hbl : s.heap.objs.size ≤ b := Nat.le_of_lt (hG.above b (List.mem_of_getElem? hj))
    obtain ⟨vs, ⟨i, q', i1, i2, rfl⟩, e⟩ := qt b (List.mem_of_getElem? hj)
    have eij : i = j := (List.getElem?_inj (List.getElem?_eq_some_iff.mp i1).1 nd).mp (i1.trans hj.symm)
    subst eij
    cases Option.some.inj (i2.symm.trans hq)
    exact ⟨I.hok.fresh hbl, e⟩
  have rv : Vals (as.map V.ref) (as.map Value.ref) := vals_refs rfl
  have dv := fun (M : Addr → Prop) hm (pr : Paired (ItD M H) kvs ds) => itd_dva (M := M) (H := H) (H' := H2) g hm pr lak at2
  have hoL : (h'.push (seqObj "list" (as.map Value.ref).toArray 0)).get? h'.objs.size = some (seqObj "list" (as.map Value.ref).toArray 0) := Heap.get?_push_size _ rfl
  have hn0 : H h'.objs.size = none := I.hok.fresh (Nat.le_of_lt hlt)
  refine wpAny_call_entry PyProof.Rows.slot_list_sort ⟨_, hoL, rfl⟩ PyProof.Rows.entry_list_sort
    (sort_part (s := { s with heap := h', toks := tk }) I2 (by show X.A.units + 1 + 1 + 70 < cLine; omega) rv (dv (fun _ => False) (fun b m => m.elim) pr) hlim ok fun ys s3 I3 hy => ⟨.none, rfl, ?_⟩) (PyProof.Rows.args_list_sort _)
  have hn2 : H2 h'.objs.size = none := I2.hok.fresh (Nat.le_refl _)
  have sm2 : Same H2 (upd H2 h'.objs.size (.lst ys)) := same_upd hn2
  exact ⟨.ref h'.objs.size, _, I3, rfl, q _ ys _ (fun b o e => sm2 b o (g b o e)) hn0 upd_same fun M hm pr => (hy M (dv M hm pr)).same sm2⟩
/-- sorted(d.items()) -/
def itemsL (kvs : List (Key × PyData)) : List PyData := kvs.map fun p => .tuple [keyD p.1, p.2]
def xSortI2 (f : X1) : X1 := fun e w => match f e w with
  | some (.obj n, w1) => match w1[n]? with
    | some (.dct kvs) => if kvs.length ≤ LIM ∧ sortOk (itemsL kvs) = true then some (.v (.list (sortD (itemsL kvs))), w1) else none
    | _ => none
  | _ => none
theorem itd_of {M : Addr → Prop} {H : Hp} : ∀ {vs : List (Key × V)} {kvs : List (Key × PyData)}, KVg M H vs kvs → Paired (ItD M H) vs (itemsL kvs)
  | _, _, .nil => .nil
  | _, _, .cons (b := p) h t => .cons ⟨p.2, by rw [h.1], h.2⟩ (itd_of t)
theorem itd_free {M N : Addr → Prop} {H : Hp} (hn : ∀ b, N b → M b) {kvs : List (Key × V)} {ds : List PyData} (h : Paired (ItD M H) kvs ds) : Paired (ItD N H) kvs ds := pmapQ h fun q d ⟨z, e, dv⟩ => ⟨z, e, dv.less hn⟩
section
variable {X : Cx} {x : Expr} {f : X1} {apos cpos : Pos}
theorem d_sortI2 {p pos : Pos} (hc : X.calm = true) (hu : X.A.units + 100 < cLine) (hg : Gl X "sorted") (hm : X.mg "sorted" = none) (a : PE X x (tD f))
    (hbase : attributeBase x "items" X.env (eval x X.env) = eval x X.env := by rfl) (hline : (apos.endLine == cpos.line) = true := by rfl)
    (he : starEach [.Call (.Attribute x "items" apos) [] [] cpos] X.env = (false, eval (.Call (.Attribute x "items" apos) [] [] cpos) X.env) :: starEach [] X.env := by rfl) (hpl : (backTo pos (starEach [] X.env)).any (·.1) = false := by rfl) :
    PE X (.Call (.Name "sorted" p) [.Call (.Attribute x "items" apos) [] [] cpos] [] pos) (tD (xSortI2 f)) :=
  (pe_callB (call_sortedIK hc hu) hg hm boot_sorted_ (pa_cons (pe_bm0 PySem.F.plainAttrs_dict PySem.F.slot_dict_items PySem.F.type_dict_items mt_itK a hbase hline) pa_nil he) (by decide) (by decide) he hpl).imp fun σ H Q q => by
  obtain ⟨P, α, e, w, r, w', R, hf, k⟩ := q
  unfold xSortI2 at hf
  split at hf
  · rename_i n w1 h1
    split at hf
    · rename_i kvs h2
      split at hf
      · rename_i hok
        cases hf
        refine ⟨P, α, e, w, _, w', R, h1, fun v H1 α1 u1 R1 i1 => ?_⟩
        obtain ⟨a, ha, rfl⟩ := i1
        obtain ⟨vs, hb, pr⟩ := R1.ob n _ a h2 ha
        refine ⟨.inr (.inr (.inl ⟨rfl, .inl ⟨vs, hb⟩⟩)), a, vs, rfl, rfl, hb, fun p hp => ?_⟩
        have sm1 : Same H1 (upd H1 p (itemsO p a)) := same_upd hp
        have pr1 := itd_of pr
        have up : ∀ {M : Addr → Prop}, Paired (ItD M H1) vs (itemsL kvs) → Paired (ItD M (upd H1 p (itemsO p a))) vs (itemsL kvs) := fun h => pmapQ h fun q d ⟨z, e, dv⟩ => ⟨z, e, dv.same sm1⟩
        refine ⟨p, a, vs, itemsL kvs, rfl, upd_same, sm1 _ _ hb, itd_free (fun b m => m.elim) (up pr1), by unfold itemsL; rw [List.length_map]; exact hok.1, hok.2, fun H' ys l sm hl hat hy => ?_⟩
        have smA : Same H1 H' := fun b o q => sm b o (sm1 b o q)
        have hl1 : H1 l = none := by
          by_cases hb : l = p
          · rw [hb]; exact hp
          · rw [upd_ne hb] at hl; exact hl
        refine k _ _ α1 (u1.trans (.of_same smA)) (R1.same smA) (.lst (fresh_mut R1.mut hl1) (.inl hat) ?_ (hy _ (fun b m => ?_) (up pr1)))
        · show (sortD _).length ≤ LIM
          unfold sortD itemsL
          rw [List.length_mergeSort, List.length_map]
          exact hok.1
        · have hb1 := R1.mut b m
          cases e1 : H1 b with
          | none => rw [e1] at hb1; exact hb1.elim
          | some o => rw [e1] at hb1; rw [sm1 b o e1]; exact hb1
      · cases hf
    · cases hf
  · cases hf
end
end DL
/-! ### tables of sets with any mask whose way meets each slot -/
namespace DL
open PySem PySem.Spec PyProof.Rows L2 PySem.W
/-- each slot begins a run early enough -/
structure Meets (m : Nat) : Prop where
  odd : m % 2 = 1
  run : ∀ (h : Int) {j : Nat}, j ≤ m → ∃ n, n ≤ m + 12 ∧ runI m (SetTable.bits h) n = j
/-- the round of i -> 5 i + 1 goes through all -/
theorem meets_of {m : Nat} (odd : m % 2 = 1) (all : ∀ i j, i ≤ m → j ≤ m → ∃ k, k ≤ m ∧ lcgI m i k = j) : Meets m := ⟨odd, fun h j hj => by
  obtain ⟨k, hk, e⟩ := all _ _ (runI_le m (SetTable.bits h) 12) hj
  exact ⟨12 + k, by omega, by rw [runI_tail (bits_lt h)]; exact e⟩⟩
theorem meets_old {m : Nat} (h : MaskOk m) : Meets m := ⟨mask_odd h, fun x j hj => run_meets h x hj⟩
theorem way_in {m : Nat} {h : Int} {k : Nat} : way m h k ≤ m := by
  have r := runEnd_bd (show SetTable.bits h % (m + 1) ≤ m from Nat.le_of_lt_succ (Nat.mod_lt _ (Nat.succ_pos _)))
  have q := nth_in (m := m) k (runAt m (SetTable.bits h % (m + 1)) (SetTable.bits h)) (by
    show SetTable.bits h % (m + 1) + (SetTable.runEnd m (SetTable.bits h % (m + 1)) - SetTable.bits h % (m + 1)) ≤ m
    omega)
  exact Nat.le_trans (Nat.le_add_right _ _) q
structure TabW (t : SetTable) (hs : List Int) : Prop where
  ris : Ris t.place.toList
  dm : t.dummies = #[]
  sz : t.place.size = hs.length
  mok : Meets t.mask
  bd : ∀ x ∈ t.place.toList, x ≤ t.mask
  reach : ∀ (i : Nat) (h : Int) (j : Nat), hs[i]? = some h → t.place.toList[i]? = some j → ∃ k, way t.mask h k = j ∧ ∀ k', k' < k → way t.mask h k' ∈ t.place.toList
theorem meets_way {m : Nat} (M : Meets m) (h : Int) {j : Nat} (hj : j ≤ m) : ∃ k, k < 10 * SetTable.turns m ∧ way m h k = j := by
  obtain ⟨n, hn, e⟩ := M.run h hj
  obtain ⟨k, hk, e2⟩ := run_nth m (SetTable.bits h) n
  refine ⟨k, by unfold SetTable.turns; omega, ?_⟩
  show (nth m (runAt m (SetTable.bits h % (m + 1)) (SetTable.bits h)) k).j = j
  rw [e2]
  exact e
theorem TabW.first {t : SetTable} {hs : List Int} (T : TabW t hs) (hl : hs.length ≤ t.mask) (h : Int) : ∃ K, K < 10 * SetTable.turns t.mask ∧ way t.mask h K ∉ t.place.toList ∧ ∀ k, k < K → way t.mask h k ∈ t.place.toList := by
  obtain ⟨j, hj, hn⟩ := st_missing t.place.toList (t.mask + 1) (by rw [Array.length_toList, T.sz]; omega)
  obtain ⟨k, hk, e⟩ := meets_way T.mok h (Nat.le_of_lt_succ hj)
  obtain ⟨K, a1, a2, a3⟩ := st_least (p := fun k => way t.mask h k ∉ t.place.toList) k (by rw [← e] at hn; exact hn)
  exact ⟨K, Nat.lt_of_le_of_lt a1 hk, a2, fun c hc => Classical.byContradiction fun z => a3 c hc z⟩
theorem TabW.before {t : SetTable} {hs : List Int} (T : TabW t hs) {h : Int} {K i j : Nat} (hK : way t.mask h K ∉ t.place.toList) (hi : hs[i]? = some h) (hj : t.place.toList[i]? = some j) : ∃ k, k < K ∧ way t.mask h k = j := by
  obtain ⟨k, e, hb⟩ := T.reach i h j hi hj
  refine ⟨k, Nat.lt_of_not_le fun c => ?_, e⟩
  rcases Nat.lt_or_eq_of_le c with c | c
  · exact hK (hb K c)
  · rw [c, e] at hK
    exact hK (List.mem_of_getElem? hj)
theorem TabW.put {t : SetTable} {hs : List Int} (T : TabW t hs) {h : Int} {K : Nat} (hK : way t.mask h K ∉ t.place.toList) (hb : ∀ k, k < K → way t.mask h k ∈ t.place.toList) :
    (t.put (way t.mask h K)).2 = SetTable.below t.place (way t.mask h K) ∧ SetTable.below t.place (way t.mask h K) ≤ hs.length ∧
    TabW (t.put (way t.mask h K)).1 (hs.take (SetTable.below t.place (way t.mask h K)) ++ h :: hs.drop (SetTable.below t.place (way t.mask h K))) ∧
    (t.put (way t.mask h K)).1.mask = t.mask ∧ (t.put (way t.mask h K)).1.led = t.led ∧ (t.put (way t.mask h K)).1.plain = t.plain ∧ (t.put (way t.mask h K)).1.fill = hs.length + 1 := by
  obtain ⟨c1, _, _⟩ := below_cut T.ris (way t.mask h K)
  have pl : SetTable.below t.place (way t.mask h K) ≤ t.place.toList.length := by rw [Array.length_toList]; exact c1
  have ph : SetTable.below t.place (way t.mask h K) ≤ hs.length := by rw [← T.sz]; exact c1
  have np : t.place[SetTable.below t.place (way t.mask h K)]? ≠ some (way t.mask h K) := fun e => hK (List.mem_of_getElem? (by rw [Array.getElem?_toList]; exact e))
  have pp := put_place t (way t.mask h K)
  have size : (t.put (way t.mask h K)).1.place.size = hs.length + 1 := by
    rw [← Array.length_toList, pp, len_ins _ pl, Array.length_toList, T.sz]
  have up : ∀ {x : Nat}, x ∈ t.place.toList → x ∈ (t.put (way t.mask h K)).1.place.toList := fun {x} hx => by
    rw [pp]
    exact mem_ins.2 (.inr hx)
  refine ⟨rfl, ph, ⟨ris_insert T.ris np, put_dm T.dm _, by rw [len_ins _ ph]; exact size, T.mok, fun x hx => ?_, fun i h' j' h1 h2 => ?_⟩, rfl, rfl, rfl, ?_⟩
  · rw [pp] at hx
    rcases mem_ins.1 hx with z | z
    · rw [z]; exact way_in
    · exact T.bd x z
  · rw [tins_get hs ph] at h1
    rw [pp, tins_get _ pl] at h2
    show ∃ k, way t.mask h' k = j' ∧ ∀ k', k' < k → way t.mask h' k' ∈ (t.put (way t.mask h K)).1.place.toList
    rcases Nat.lt_trichotomy i (SetTable.below t.place (way t.mask h K)) with c | c | c
    · rw [if_pos c] at h1 h2
      obtain ⟨k, e, z⟩ := T.reach i h' j' h1 h2
      exact ⟨k, e, fun k' hk' => up (z k' hk')⟩
    · rw [if_neg (by omega), if_pos c] at h1 h2
      cases h1
      cases h2
      exact ⟨K, rfl, fun k' hk' => up (hb k' hk')⟩
    · rw [if_neg (by omega), if_neg (by omega)] at h1 h2
      obtain ⟨k, e, z⟩ := T.reach (i - 1) h' j' h1 h2
      exact ⟨k, e, fun k' hk' => up (z k' hk')⟩
  · show (t.put (way t.mask h K)).1.place.size + (t.put (way t.mask h K)).1.dummies.size = hs.length + 1
    rw [size, put_dm T.dm]
    rfl
/-! the table laid anew -/
theorem find_free {m : Nat} (M : Meets m) (owner : Array (Option Nat)) (h : Int) {j : Nat} (hj : j ≤ m) (hf : oAt owner j = none) :
    ∃ K, SetTable.layClean.free m owner (SetTable.turns m) (SetTable.bits h % (m + 1)) (SetTable.bits h) = some (way m h K) ∧ oAt owner (way m h K) = none ∧ ∀ k, k < K → oAt owner (way m h k) ≠ none := by
  obtain ⟨n, hn, e⟩ := M.run h hj
  have hw : way m h (off m (SetTable.bits h % (m + 1)) (SetTable.bits h) n) = j := by
    show (nth m (runAt m (SetTable.bits h % (m + 1)) (SetTable.bits h)) (off m (SetTable.bits h % (m + 1)) (SetTable.bits h) n)).j = j
    rw [nth_off, itL_run]
    exact e
  obtain ⟨K, k1, k2, k3⟩ := st_least (p := fun k => oAt owner (way m h k) = none) _ (by
    show oAt owner (way m h (off m (SetTable.bits h % (m + 1)) (SetTable.bits h) n)) = none
    rw [hw]
    exact hf)
  refine ⟨K, free_spec m owner (SetTable.turns m) n _ _ K (by unfold SetTable.turns; omega) k1 (fun k hk => ?_) ?_, k2, k3⟩
  · have q := k3 k hk
    show (oAt owner (way m h k)).isNone = false
    cases z : oAt owner (way m h k) with
    | none => exact absurd z q
    | some _ => rfl
  · show (oAt owner (way m h K)).isNone = true
    rw [k2]
    rfl
theorem ownW_step {m : Nat} (M : Meets m) {done : List Int} {owner : Array (Option Nat)} (W : Own m done owner) (hl : done.length ≤ m) (h : Int) :
    ∃ j, SetTable.layClean.free m owner (SetTable.turns m) (SetTable.bits h % (m + 1)) (SetTable.bits h) = some j ∧ Own m (done ++ [h]) (owner.setIfInBounds j (some done.length)) := by
  obtain ⟨ps, hps, hin⟩ := W.ps
  obtain ⟨j0, h0, hn0⟩ := st_missing ps (m + 1) (by omega)
  have free0 : oAt owner j0 = none := by
    cases z : oAt owner j0 with
    | none => rfl
    | some k => exact absurd (hin j0 (Nat.le_of_lt_succ h0) (by rw [z]; exact fun e => nomatch e)) hn0
  obtain ⟨K, e1, e2, e3⟩ := find_free M owner h (Nat.le_of_lt_succ h0) free0
  have jm : way m h K ≤ m := way_in
  have self := oAt_set_self (some done.length) (show way m h K < owner.size by rw [W.sz]; exact Nat.lt_succ_of_le jm)
  have mono : ∀ {i : Nat}, oAt owner i ≠ none → oAt (owner.setIfInBounds (way m h K) (some done.length)) i ≠ none := fun {i} hi => by
    by_cases c : i = way m h K
    · rw [c, self]; exact fun e => nomatch e
    · rw [oAt_set_ne _ c]; exact hi
  refine ⟨way m h K, e1, ⟨by rw [Array.size_setIfInBounds]; exact W.sz, fun j k hj e => ?_, fun k hk => ?_, ⟨way m h K :: ps, by rw [List.length_cons, List.length_append, hps]; rfl, fun j hj e => ?_⟩⟩⟩
  · by_cases c : j = way m h K
    · rw [c, self] at e
      cases e
      exact ⟨h, K, by rw [List.getElem?_append_right (Nat.le_refl _), Nat.sub_self]; rfl, c.symm, fun k' hk' => mono (e3 k' hk')⟩
    · rw [oAt_set_ne _ c] at e
      obtain ⟨h', K', a1, a2, a3⟩ := W.at_ j k hj e
      exact ⟨h', K', by rw [List.getElem?_append_left (List.getElem?_eq_some_iff.mp a1).1]; exact a1, a2, fun k' hk' => mono (a3 k' hk')⟩
  · rw [List.length_append, List.length_singleton] at hk
    by_cases c : k < done.length
    · obtain ⟨j, hj, e⟩ := W.all k c
      refine ⟨j, hj, ?_⟩
      rw [oAt_set_ne _ (fun z => by rw [z, e2] at e; cases e)]
      exact e
    · rw [show k = done.length by omega]
      exact ⟨way m h K, jm, self⟩
  · by_cases c : j = way m h K
    · rw [c]; exact List.mem_cons_self
    · rw [oAt_set_ne _ c] at e
      exact List.mem_cons_of_mem _ (hin j hj e)
theorem ownW_fold {m : Nat} (M : Meets m) : ∀ (rest done : List Int) (owner : Array (Option Nat)), Own m done owner → done.length + rest.length ≤ m →
    ∃ owner', rest.foldl (stepF m) (some (owner, done.length)) = some (owner', (done ++ rest).length) ∧ Own m (done ++ rest) owner'
  | [], done, owner, W, _ => ⟨owner, by rw [List.append_nil]; rfl, by rw [List.append_nil]; exact W⟩
  | h :: rest, done, owner, W, hl => by
    rw [List.length_cons] at hl
    obtain ⟨j, e, W'⟩ := ownW_step M W (by omega) h
    obtain ⟨owner', f, W2⟩ := ownW_fold M rest (done ++ [h]) _ W' (by rw [List.length_append, List.length_singleton]; omega)
    have ea : done ++ [h] ++ rest = done ++ h :: rest := by rw [List.append_assoc]; rfl
    rw [ea, List.length_append, List.length_singleton] at f
    rw [ea] at W2
    refine ⟨owner', ?_, W2⟩
    rw [List.foldl_cons, stepF_some e]
    exact f
theorem lay_ok {m : Nat} (M : Meets m) {hs : Array Int} (hn : hs.size ≤ m) : ∃ owner, SetTable.layClean m hs = some owner ∧ Own m hs.toList owner := by
  obtain ⟨owner, f, W⟩ := ownW_fold M hs.toList [] _ (Own.init m) (by rw [Array.length_toList]; show 0 + hs.size ≤ m; omega)
  rw [List.nil_append] at W
  refine ⟨owner, ?_, W⟩
  have f' : hs.toList.foldl (stepF m) (some (Array.replicate (m + 1) none, 0)) = some (owner, ([] ++ hs.toList).length) := f
  rw [layClean_eq, f']
  rfl
theorem perm_range_of : ∀ (n : Nat) (l : List Nat), l.length = n → (∀ k, k < n → k ∈ l) → l.Perm (List.range n) := perm_range
theorem relaidW {t : SetTable} {hs : Array Int} {wanted m : Nat} (hw : SetTable.sizeAbove wanted - 1 = m) (M : Meets m) (hn : hs.size ≤ m) :
    ∃ t' order, t.relaid hs wanted = some (t', order) ∧ order.toList.Perm (List.range hs.size) ∧ TabW t' (order.toList.map fun i => hs.getD i 0) ∧ t'.mask = m ∧ t'.led = t.led ∧ t'.plain = t.plain := by
  obtain ⟨owner, e, W⟩ := lay_ok M hn
  have hr : t.relaid hs wanted = some (tabOf t m owner, ((liveOf m owner).map (·.2)).toArray) := by
    rw [relaid_eq, hw, e]
    rfl
  have ris := ris_live (fun j => owner.getD j none) (List.range (m + 1)) (by
    unfold Ris
    first | exact List.pairwise_lt_range | exact List.pairwise_lt_range _)
  have r1 : Ris ((liveOf m owner).map (·.1)) := ris.1
  have r2 : ∀ x ∈ (liveOf m owner).map (·.1), x ∈ List.range (m + 1) := ris.2
  have nd : ((liveOf m owner).map (·.1)).Nodup := r1.imp fun h => Nat.ne_of_lt h
  have len : (liveOf m owner).length = hs.size := by
    obtain ⟨ps, p1, p2⟩ := W.ps
    have a := nat_nodup_len ((liveOf m owner).map (·.1)) ps nd fun x hx => by
      obtain ⟨⟨y, k⟩, hq, rfl⟩ := List.mem_map.mp hx
      obtain ⟨b1, b2⟩ := (mem_live W.sz).1 hq
      exact p2 y b1 (by rw [b2]; exact fun z => nomatch z)
    have b := nat_nodup_len (List.range hs.size) ((liveOf m owner).map (·.2)) List.nodup_range fun k hk => by
      obtain ⟨j, b1, b2⟩ := W.all k (by rw [Array.length_toList]; exact List.mem_range.mp hk)
      exact List.mem_map.mpr ⟨(j, k), (mem_live W.sz).2 ⟨b1, b2⟩, rfl⟩
    rw [List.length_map, p1] at a
    rw [List.length_map, List.length_range] at b
    have z : hs.toList.length = hs.size := rfl
    omega
  refine ⟨tabOf t m owner, ((liveOf m owner).map (·.2)).toArray, hr, perm_range hs.size _ ?_ fun k hk => ?_, ⟨r1, rfl, ?_, M, fun x hx => Nat.le_of_lt_succ (List.mem_range.mp (r2 x hx)), fun i h j h1 h2 => ?_⟩, rfl, rfl, rfl⟩
  · show ((liveOf m owner).map (·.2)).length = hs.size
    rw [List.length_map, len]
  · obtain ⟨j, b1, b2⟩ := W.all k (by rw [Array.length_toList]; exact hk)
    exact List.mem_map.mpr ⟨(j, k), (mem_live W.sz).2 ⟨b1, b2⟩, rfl⟩
  · show ((liveOf m owner).map (·.1)).toArray.size = (((liveOf m owner).map (·.2)).map fun i => hs.getD i 0).length
    rw [List.size_toArray, List.length_map, List.length_map, List.length_map]
  · have h1' : (((liveOf m owner).map (·.2)).map fun i => hs.getD i 0)[i]? = some h := h1
    have h2' : ((liveOf m owner).map (·.1))[i]? = some j := h2
    rw [List.getElem?_map, List.getElem?_map] at h1'
    rw [List.getElem?_map] at h2'
    cases hq : (liveOf m owner)[i]? with
    | none =>
      rw [hq] at h2'
      cases h2'
    | some q =>
      obtain ⟨y, k⟩ := q
      rw [hq] at h1' h2'
      cases h2'
      have eh : hs.getD k 0 = h := Option.some.inj h1'
      obtain ⟨b1, b2⟩ := (mem_live W.sz).1 (List.mem_of_getElem? hq)
      obtain ⟨h0, K, a1, a2, a3⟩ := W.at_ y k b1 b2
      have e0 : hs.getD k 0 = h0 := by
        rw [Array.getD_eq_getD_getElem?, ← Array.getElem?_toList, a1]
        rfl
      obtain rfl : h0 = h := e0.symm.trans eh
      refine ⟨K, a2, fun k' hk' => ?_⟩
      show way m h0 k' ∈ (liveOf m owner).map (·.1)
      cases z : oAt owner (way m h0 k') with
      | none => exact absurd z (a3 k' hk')
      | some k2 => exact List.mem_map.mpr ⟨(way m h0 k', k2), (mem_live W.sz).2 ⟨way_in, z⟩, rfl⟩
/-- n turns of i -> 5 i + 1 -/
def orb (m : Nat) : Nat → Nat → List Nat
  | 0, _ => []
  | n + 1, x => x :: orb m n ((x * 5 + 1) % (m + 1))
theorem lcgI_next (m x : Nat) : ∀ k, lcgI m ((x * 5 + 1) % (m + 1)) k = lcgI m x (k + 1)
  | 0 => rfl
  | k + 1 => by
    show (lcgI m ((x * 5 + 1) % (m + 1)) k * 5 + 1) % (m + 1) = (lcgI m x (k + 1) * 5 + 1) % (m + 1)
    rw [lcgI_next m x k]
theorem orb_mem {m : Nat} : ∀ (n x j : Nat), j ∈ orb m n x → ∃ k, k < n ∧ lcgI m x k = j
  | 0, _, _, h => by cases h
  | n + 1, x, j, h => by
    unfold orb at h
    rcases List.mem_cons.mp h with rfl | h
    · exact ⟨0, Nat.succ_pos _, rfl⟩
    · obtain ⟨k, hk, e⟩ := orb_mem n _ j h
      exact ⟨k + 1, Nat.succ_lt_succ hk, by rw [← lcgI_next]; exact e⟩
theorem lcgI_add (m x : Nat) (a : Nat) : ∀ k, lcgI m (lcgI m x a) k = lcgI m x (a + k)
  | 0 => rfl
  | k + 1 => by
    show (lcgI m (lcgI m x a) k * 5 + 1) % (m + 1) = (lcgI m x (a + k) * 5 + 1) % (m + 1)
    rw [lcgI_add m x a k]
/-- the last of so many turns -/
def lastO (m : Nat) : Nat → Nat → Nat
  | 0, x => x
  | n + 1, x => lastO m n ((x * 5 + 1) % (m + 1))
theorem lastO_is (m : Nat) : ∀ n x, lastO m n x = lcgI m x n
  | 0, _ => rfl
  | n + 1, x => by
    show lastO m n ((x * 5 + 1) % (m + 1)) = _
    rw [lastO_is m n, lcgI_next]
theorem round_all {m : Nat} (h1 : (List.range (m + 1)).all (fun j => (orb m (m + 1) 0).contains j) = true) (h2 : lastO m (m + 1) 0 = 0) : ∀ i j, i ≤ m → j ≤ m → ∃ k, k ≤ m ∧ lcgI m i k = j := fun i j hi hj => by
  have at_ : ∀ j, j ≤ m → ∃ k, k < m + 1 ∧ lcgI m 0 k = j := fun j hj => orb_mem _ _ _ (List.contains_iff_mem.mp (List.all_eq_true.mp h1 j (List.mem_range.mpr (Nat.lt_succ_of_le hj))))
  obtain ⟨a, ha, ea⟩ := at_ i hi
  obtain ⟨b, hb, eb⟩ := at_ j hj
  rw [← ea]
  by_cases c : a ≤ b
  · exact ⟨b - a, by omega, by rw [lcgI_add, show a + (b - a) = b by omega, eb]⟩
  · refine ⟨m + 1 - a + b, by omega, ?_⟩
    rw [lcgI_add, show a + (m + 1 - a + b) = (m + 1) + b by omega, ← lcgI_add, ← lastO_is m (m + 1), h2, eb]
/-- the numbers met, as the digits of one number -/
def orbM (m : Nat) : Nat → Nat → Nat → Nat
  | 0, _, a => a
  | n + 1, x, a => orbM m n ((x * 5 + 1) % (m + 1)) (a ||| (1 <<< x))
theorem orbM_bit {m : Nat} : ∀ (n x a j : Nat), (orbM m n x a).testBit j = true → a.testBit j = true ∨ j ∈ orb m n x
  | 0, _, _, _, h => .inl h
  | n + 1, x, a, j, h => by
    rcases orbM_bit n _ _ j h with h | h
    · rw [Nat.testBit_or, Bool.or_eq_true] at h
      rcases h with h | h
      · exact .inl h
      · refine .inr ?_
        rw [Nat.one_shiftLeft, Nat.testBit_two_pow, decide_eq_true_eq] at h
        unfold orb
        rw [h]
        exact List.mem_cons_self ..
    · refine .inr ?_
      unfold orb
      exact List.mem_cons_of_mem _ h
theorem round_bits {m : Nat} (h1 : orbM m (m + 1) 0 0 = 2 ^ (m + 1) - 1) (h2 : lastO m (m + 1) 0 = 0) : ∀ i j, i ≤ m → j ≤ m → ∃ k, k ≤ m ∧ lcgI m i k = j := by
  refine round_all ?_ h2
  rw [List.all_eq_true]
  intro j hj
  rw [List.contains_iff_mem]
  have hb : (orbM m (m + 1) 0 0).testBit j = true := by
    rw [h1, Nat.testBit_two_pow_sub_one, decide_eq_true_eq]
    exact List.mem_range.mp hj
  rcases orbM_bit _ _ _ _ hb with h | h
  · rw [Nat.zero_testBit] at h
    cases h
  · exact h
theorem meets511 : Meets 511 := meets_of rfl (round_bits (by decide +kernel) (by decide +kernel))
theorem meets2047 : Meets 2047 := meets_of rfl (round_bits (by decide +kernel) (by decide +kernel))
end DL

/-! ### sets of nested tuples of numbers -/
namespace DL
open PySem PySem.Spec PyProof.Rows L2 PySem.W
mutual
/-- no text stands in the key -/
def dryK : NestedKey → Bool
  | .none => true
  | .num _ => true
  | .text _ => false
  | .tup ks => dryA ks
def dryA : List NestedKey → Bool
  | [] => true
  | k :: r => dryK k && dryA r
end
/-- the tuple at a is the key k -/
structure AtK (h : Heap) (a : Addr) (k : NestedKey) : Prop where
  is : NestedIs h k (.ref a)
  dp : k.depth ≤ 8
  dry : dryK k = true
section
variable {P : Program} {w : World} {s : Shared}
/-- a question about v that is answered b and changes nothing -/
def Calm1 (P : Program) (w : World) (m : Sem Bool) (b : Bool) (s : Shared) : Prop := ∀ (A : Around) (E : Value → Shared → Prop) (Q : Bool → Shared → Prop), Q b s → wpAny (model P w) A m Q E s
theorem Calm1.pure (b : Bool) (s : Shared) : Calm1 P w (pure b) b s := fun _ _ _ q => wpAny_pure q
mutual
theorem byV : ∀ (k : NestedKey) (v : Value) (n : Nat), NestedIs s.heap k v → k.depth ≤ n → dryK k = true → Calm1 P w (hashByValue n v) true s
  | .none, _, n, x, _, _ => by cases x; cases n <;> exact Calm1.pure _ _
  | .num i, _, n, x, _, _ => by cases x <;> cases n <;> exact Calm1.pure _ _
  | .text _, _, _, _, _, d => by cases d
  | .tup ks, _, n, x, hn, d => by
    cases x with
    | @tup a o vs m _ ho hc hd hk =>
      simp only [NestedKey.depth] at hn
      simp only [dryK] at d
      cases n with
      | zero => omega
      | succ n =>
        have items := byVs ks vs.toList n hk (by omega) d
        intro A E Q q
        unfold hashByValue
        refine wpAny_bind (wpAny_specialOf ⟨o, ho, hc⟩ F.slot_tuple_hash.lookup ?_)
        show wpAny _ _ (seqItems? (.ref a) >>= _) _ _ s
        refine wpAny_bind (wpAny_seqItems ho hd (wpAny_bind ?_))
        show wpAny _ _ (forIn vs _ _) _ _ s
        rw [← Array.forIn_toList]
        refine wpAny_forIn_list _ (fun rest r z => (r.1 = none ∧ z = s) ∧ ∀ v ∈ rest, v ∈ vs.toList) _ (fun v rest r z hz => ?_) (fun r z hz => ?_) _ _ ⟨⟨rfl, rfl⟩, fun _ h => h⟩
        · obtain ⟨⟨h1, rfl⟩, hm⟩ := hz
          refine wpAny_bind (items v (hm v List.mem_cons_self) _ _ _ ?_)
          simp only [Bool.not_true, Bool.false_eq_true, if_false]
          exact wpAny_pure ⟨⟨rfl, rfl⟩, fun u hu => hm u (List.mem_cons_of_mem _ hu)⟩
        · obtain ⟨r1, r2⟩ := r
          obtain ⟨⟨h1, rfl⟩, _⟩ := hz
          cases h1
          exact wpAny_pure q
theorem byVs : ∀ (ks : List NestedKey) (vs : List Value) (n : Nat), NestedAll s.heap ks vs → NestedKey.depthAll ks ≤ n → dryA ks = true → ∀ v ∈ vs, Calm1 P w (hashByValue n v) true s
  | [], _, _, x, _, _, v, hv => by cases x; cases hv
  | k :: ks, _, n, x, hn, d, v, hv => by
    cases x with
    | cons x1 x2 =>
      simp only [NestedKey.depthAll] at hn
      simp only [dryA, Bool.and_eq_true] at d
      rcases List.mem_cons.mp hv with rfl | hv
      · exact byV k _ n x1 (by omega) d.1
      · exact byVs ks _ n x2 (by omega) d.2 v hv
end
mutual
theorem noCl : ∀ (k : NestedKey) (v : Value) (n : Nat), NestedIs s.heap k v → k.depth ≤ n → Calm1 P w (ofAClassStatement n v) false s
  | .none, _, n, x, _ => by cases x; cases n <;> exact Calm1.pure _ _
  | .num i, _, n, x, _ => by cases x <;> cases n <;> exact Calm1.pure _ _
  | .text _, _, n, x, _ => by cases x; cases n <;> exact Calm1.pure _ _
  | .tup ks, _, n, x, hn => by
    cases x with
    | @tup a o vs m _ ho hc hd hk =>
      simp only [NestedKey.depth] at hn
      cases n with
      | zero => omega
      | succ n =>
        have items := noCls ks vs.toList n hk (by omega)
        intro A E Q q
        unfold ofAClassStatement
        refine wpAny_bind (wpAny_typeOf (show s.TypeIs (.ref a) "tuple" from ⟨o, ho, hc⟩) ?_)
        simp only [show (("tuple" : String) == "tuple") = true by decide, if_true, Bool.not_true, Bool.false_eq_true, if_false]
        try refine wpAny_bind (wpAny_pure ?_)
        try simp only [Bool.not_true, Bool.false_eq_true, if_false]
        show wpAny _ _ (seqItems? (.ref a) >>= _) _ _ s
        refine wpAny_bind (wpAny_seqItems ho hd (wpAny_bind ?_))
        show wpAny _ _ (forIn vs _ _) _ _ s
        rw [← Array.forIn_toList]
        refine wpAny_forIn_list _ (fun rest r z => (r.1 = none ∧ z = s) ∧ ∀ v ∈ rest, v ∈ vs.toList) _ (fun v rest r z hz => ?_) (fun r z hz => ?_) _ _ ⟨⟨rfl, rfl⟩, fun _ h => h⟩
        · obtain ⟨⟨h1, rfl⟩, hm⟩ := hz
          refine wpAny_bind (items v (hm v List.mem_cons_self) _ _ _ ?_)
          simp only [Bool.false_eq_true, if_false]
          exact wpAny_pure ⟨⟨rfl, rfl⟩, fun u hu => hm u (List.mem_cons_of_mem _ hu)⟩
        · obtain ⟨r1, r2⟩ := r
          obtain ⟨⟨h1, rfl⟩, _⟩ := hz
          cases h1
          exact wpAny_pure q
theorem noCls : ∀ (ks : List NestedKey) (vs : List Value) (n : Nat), NestedAll s.heap ks vs → NestedKey.depthAll ks ≤ n → ∀ v ∈ vs, Calm1 P w (ofAClassStatement n v) false s
  | [], _, _, x, _, v, hv => by cases x; cases hv
  | k :: ks, _, n, x, hn, v, hv => by
    cases x with
    | cons x1 x2 =>
      simp only [NestedKey.depthAll] at hn
      rcases List.mem_cons.mp hv with rfl | hv
      · exact noCl k _ n x1 (by omega)
      · exact noCls ks _ n x2 (by omega) v hv
end
theorem AtK.eq {a b : Addr} {x y : NestedKey} (h1 : AtK s.heap a x) (h2 : AtK s.heap b y) {A : Around} (hu : A.units + 8 < cLine) : ∀ {E : Value → Shared → Prop} {Q : Bool → Shared → Prop}, Q (decide (x = y)) s → wpAny (model P w) A (eqBool (.ref a) (.ref b)) Q E s := fun q =>
  (nestedKind P w).eqBool hu ⟨h1.is, h1.dp⟩ ⟨h2.is, h2.dp⟩ q
theorem AtK.quiet {a : Addr} {x : NestedKey} (h : AtK s.heap a x) : Calm1 P w (eqIsQuiet 8 (.ref a)) true s := fun A E Q q => (nestedKind P w).quiet ⟨h.is, h.dp⟩ q
theorem AtK.hash {a : Addr} {x : NestedKey} (h : AtK s.heap a x) {A : Around} (hu : A.units + 8 < cLine) {E : Value → Shared → Prop} {Q : Int → Shared → Prop} (q : Q (x.hash w) { s with toks := s.toks + x.draws }) : wpAny (model P w) A (pyHash (.ref a)) Q E s :=
  (nestedKind P w).pyHash hu ⟨h.is, h.dp⟩ q
/-- comparing the key with what stands there shows nothing of the table -/
theorem unseen {b : Addr} {k : NestedKey} (hb : AtK s.heap b k) {ys : List Value} (hy : ∀ y ∈ ys, ∃ c k', y = Value.ref c ∧ AtK s.heap c k') : Calm1 P w (searchCouldBeSeen (.ref b) ys) false s := fun A E Q q => by
  unfold searchCouldBeSeen
  refine wpAny_bind (wpAny_forIn_list _ (fun rest r z => (r.1 = none ∧ z = s) ∧ ∀ y ∈ rest, y ∈ ys) _ (fun v rest r z hz => ?_) (fun r z hz => ?_) _ _ ⟨⟨rfl, rfl⟩, fun _ h => h⟩)
  · obtain ⟨⟨h1, rfl⟩, hm⟩ := hz
    obtain ⟨c, k', rfl, hc⟩ := hy v (hm v List.mem_cons_self)
    have go : ∀ y ∈ rest, y ∈ ys := fun u hu => hm u (List.mem_cons_of_mem _ hu)
    dsimp only
    by_cases same : (b == c || (carriedByValue (.ref b) && carriedByValue (.ref c))) = true
    · exact wp_if_pos same (wpAny_pure ⟨⟨rfl, rfl⟩, go⟩)
    · refine wp_if_neg same (wpAny_bind (hb.quiet _ _ _ ?_))
      simp only [Bool.not_true, Bool.false_eq_true, if_false]
      refine wpAny_bind (hc.quiet _ _ _ ?_)
      simp only [Bool.not_true, Bool.false_eq_true, if_false]
      refine wpAny_bind (noCl _ _ 8 hb.is hb.dp _ _ _ ?_)
      simp only [Bool.false_eq_true, if_false]
      refine wpAny_bind (noCl _ _ 8 hc.is hc.dp _ _ _ ?_)
      simp only [Bool.false_eq_true, if_false]
      exact wpAny_pure ⟨⟨rfl, rfl⟩, go⟩
  · obtain ⟨r1, r2⟩ := r
    obtain ⟨⟨h1, rfl⟩, _⟩ := hz
    cases h1
    exact wpAny_pure q
end
end DL
/-! ### sets of nested tuples: looking, adding -/
namespace DL
open PySem PySem.Spec PyProof.Rows L2 PySem.W
abbrev KL := List (Addr × NestedKey)
def hsK (w : World) (L : KL) : List Int := L.map fun p => p.2.hash w
def valsK (L : KL) : List Value := L.map fun p => Value.ref p.1
/-- the set at a has the keys L, in the order of its slots -/
structure NSet (w : World) (h : Heap) (a : Addr) (L : KL) (es : Array (Int × Value)) (ep : Nat) (t : SetTable) : Prop where
  ob : ∃ o, h.get? a = some o ∧ o.ExactSet ∧ o.data = .set es ep t
  rows : es.toList = (hsK w L).zip (valsK L)
  tab : TabW t (hsK w L)
  nd : (L.map (·.2)).Nodup
  plain : t.plain = true
  led : w.params.followText "set-order" = true ∨ t.led = true
  room : L.length * 5 < t.mask * 3
  four : (t.mask = 7 ∨ t.mask = 31 ∨ t.mask = 127 ∨ t.mask = 511 ∨ t.mask = 2047)
section
variable {P : Program} {w : World} {A : Around} {E : Value → Shared → Prop} {s : Shared} {a : Addr} {L : KL} {es : Array (Int × Value)} {ep : Nat} {t : SetTable}
theorem hsK_len : (hsK w L).length = L.length := List.length_map ..
theorem rows_at {i : Nat} {p : Addr × NestedKey} (hr : es.toList = (hsK w L).zip (valsK L)) (h : L[i]? = some p) : es[i]? = some (p.2.hash w, Value.ref p.1) := by
  rw [← Array.getElem?_toList, hr, List.getElem?_zip_eq_some.mpr]
  unfold hsK valsK
  rw [List.getElem?_map, List.getElem?_map, h]
  exact ⟨rfl, rfl⟩
theorem rows_len (hr : es.toList = (hsK w L).zip (valsK L)) : es.size = L.length := by
  have h := congrArg List.length hr
  unfold hsK valsK at h
  rw [Array.length_toList, List.length_zip, List.length_map, List.length_map, Nat.min_self] at h
  exact h
theorem fits_of {hs : List Int} (T : TabW t hs) {n : Nat} (hn : hs.length = n) (hm : n ≤ t.mask) : t.fits n = true := by
  have h1 := T.sz
  unfold SetTable.fits SetTable.fill
  rw [T.dm, Bool.and_eq_true, beq_iff_eq, decide_eq_true_eq]
  show t.place.size = n ∧ t.place.size + 0 ≤ t.mask
  omega
theorem NSet.fits (R : NSet w s.heap a L es ep t) : t.fits es.size = true := by
  have h3 := R.room
  have h2 := rows_len R.rows
  exact fits_of R.tab (by rw [hsK_len, h2]) (by omega)
/-- the way of the key k ends at its K-th step -/
structure EndsAt (w : World) (t : SetTable) (k : NestedKey) (K : Nat) : Prop where
  soon : K < 10 * SetTable.turns t.mask
  free : way t.mask (k.hash w) K ∉ t.place.toList
  busy : ∀ c, c < K → way t.mask (k.hash w) c ∈ t.place.toList
/-- where the way stands after c steps -/
def stepK (w : World) (t : SetTable) (k : NestedKey) (c : Nat) : SetTable.Probe := nth t.mask (runAt t.mask (SetTable.bits (k.hash w) % (t.mask + 1)) (SetTable.bits (k.hash w))) c
theorem stepK_j (k : NestedKey) (c : Nat) : (stepK w t k c).j = way t.mask (k.hash w) c := rfl
theorem stepK_add (k : NestedKey) (c q : Nat) : nth t.mask (stepK w t k c) q = stepK w t k (c + q) := (nth_add t.mask c _ q).symm
theorem nth_clean (m : Nat) : ∀ (n : Nat) {p : SetTable.Probe}, p.dummy = none → (nth m p n).dummy = none
  | 0, _, h => h
  | n + 1, p, h => nth_clean m n (p := adv m p) (by unfold adv; split <;> exact h)
theorem look_on (R : NSet w s.heap a L es ep t) (hL : ∀ p ∈ L, AtK s.heap p.1 p.2) {x : Addr} {k : NestedKey} (hx : AtK s.heap x k) (hu : A.units + 8 < cLine) {K : Nat} (N : EndsAt w t k K) {Q : SetFound → Shared → Prop}
    (hin : k ∈ L.map (·.2) → Q (.there none) s) (hout : k ∉ L.map (·.2) → Q (.free (way t.mask (k.hash w) K) false) s) :
    ∀ (f c : Nat) (st : Option SetTable.Probe), st.getD (t.probeStart (k.hash w)) = stepK w t k c → c ≤ K → K - c < f →
      (∀ (i : Nat) p, L[i]? = some p → p.2 = k → ∃ c', c ≤ c' ∧ c' < K ∧ t.place.toList[i]? = some (way t.mask (k.hash w) c')) →
      wpAny (model P w) A (setSearchFrom a (.ref x) (k.hash w) true f st) Q E s := by
  obtain ⟨o, ho, _, hd⟩ := R.ob
  have odd : ¬ t.gaveWay = true := by
    unfold SetTable.gaveWay
    rw [R.tab.mok.odd]
    decide
  intro f
  induction f with
  | zero => intro c st _ _ hf _; exact absurd hf (Nat.not_lt_zero _)
  | succ f ih =>
    intro c st hst hc hf still
    rw [setSearchFrom_succ]
    refine wpAny_bind (wpAny_setState_of ho hd R.fits ?_)
    dsimp only
    refine wp_if_neg odd ?_
    try refine wpAny_bind (wpAny_pure ?_)
    rw [hst]
    have hashOf : ∀ (i : Nat) p, L[i]? = some p → ((es[i]?.map (·.1)).getD 0) = p.2.hash w := fun i p hp => by rw [rows_at R.rows hp]; rfl
    have js : ∀ q, (nth t.mask (stepK w t k c) q).j = way t.mask (k.hash w) (c + q) := fun q => by rw [stepK_add, stepK_j]
    have eK : c + (K - c) = K := by omega
    rcases go_spec t R.tab.ris R.tab.dm (fun i => (es[i]?.map (·.1)).getD 0) (k.hash w) (10 * SetTable.turns t.mask) (K - c) (stepK w t k c) (nth_clean _ _ rfl) (by have := N.soon; omega) (fun q hq => by rw [js]; exact N.busy _ (by omega)) (by rw [js, eK]; exact N.free) with ⟨q, i, hq, hi, hh, hno, hpr⟩ | ⟨hno, hpr⟩
    · -- one with that hash stands on the way
      rw [js] at hi
      have len : t.place.toList.length = L.length := by rw [Array.length_toList, R.tab.sz, hsK_len]
      obtain ⟨p, hp⟩ : ∃ p, L[i]? = some p := ⟨_, List.getElem?_eq_getElem (by rw [← len]; exact (List.getElem?_eq_some_iff.mp hi).1)⟩
      have hpm : p ∈ L := List.mem_of_getElem? hp
      have live := slot_live R.tab.ris hi
      have e0 : t.probe (fun i => (es[i]?.map (·.1)).getD 0) (k.hash w) (stepK w t k c) = some (.candidate (way t.mask (k.hash w) (c + q)) i (stepK w t k (c + (q + 1)))) := by
        rw [← js, ← stepK_add]
        exact hpr
      rw [e0]
      dsimp only
      have main : wpAny (model P w) A (searchRest a (.ref x) (k.hash w) true f es t (way t.mask (k.hash w) (c + q)) i (stepK w t k (c + (q + 1)))) Q E s := by
        unfold searchRest
        rw [rows_at R.rows hp]
        dsimp only
        refine wpAny_bind (wpAny_holding ((hL p hpm).eq hx hu (wpAny_bind (wpAny_setState_of ho hd R.fits ?_))))
        dsimp only
        by_cases hk : p.2 = k
        · exact wp_if_pos (by simp [hk]) (wpAny_pure (hin (List.mem_map.mpr ⟨p, hpm, hk⟩)))
        · refine wp_if_neg (by simp [hk]) ?_
          try refine wpAny_bind (wpAny_pure ?_)
          rw [sameMem]
          dsimp only
          simp only [if_true, live, rows_at R.rows hp]
          refine wpAny_bind (wpAny_isSame_ref_self (wpAny_bind (wpAny_pure ?_)))
          simp only [if_true]
          refine wp_if_neg (by simp [hk]) (ih (c + (q + 1)) _ rfl (by omega) (by omega) fun i' p' h' hk' => ?_)
          obtain ⟨c', a1, a2, a3⟩ := still i' p' h' hk'
          refine ⟨c', ?_, a2, a3⟩
          by_cases z : c' < c + q
          · refine absurd ?_ (hno (c' - c) i' (by omega) (by rw [js, show c + (c' - c) = c' by omega]; exact a3))
            show (es[i']?.map (·.1)).getD 0 = _
            rw [hashOf i' p' h', hk']
          · by_cases y : c' = c + q
            · rw [y] at a3
              have q2 := slot_live R.tab.ris a3
              rw [live] at q2
              injection q2 with q2
              rw [← q2, hp] at h'
              exact absurd ((congrArg Prod.snd (Option.some.inj h')).trans hk') hk
            · omega
      by_cases hl : t.led = true
      · refine wp_if_neg (by simp [hl]) ?_
        try refine wpAny_bind (wpAny_pure ?_)
        exact main
      · refine wp_if_pos (by simp [hl]) (wpAny_bind (unseen hx (fun y hy => ?_) _ _ _ ?_))
        · obtain ⟨e, he, rfl⟩ := List.mem_map.mp hy
          have h1 : e ∈ es.toList := by
            have : e ∈ es ∧ e.1 = k.hash w := by simpa using he
            simpa using this.1
          rw [R.rows] at h1
          obtain ⟨p', hp', e'⟩ := List.mem_map.mp (List.of_mem_zip h1).2
          exact ⟨p'.1, p'.2, e'.symm, hL p' hp'⟩
        · refine wp_if_neg (by decide) ?_
          try refine wpAny_bind (wpAny_pure ?_)
          exact main
    · -- none: the way's end
      have e0 : t.probe (fun i => (es[i]?.map (·.1)).getD 0) (k.hash w) (stepK w t k c) = some (.empty (way t.mask (k.hash w) K) none) := by
        have e2 : way t.mask (k.hash w) K = (nth t.mask (stepK w t k c) (K - c)).j := by rw [js, eK]
        rw [e2]
        exact hpr
      rw [e0]
      dsimp only
      refine wpAny_pure (hout fun hm => ?_)
      obtain ⟨p', hp', hk'⟩ := List.mem_map.mp hm
      obtain ⟨i', hi'⟩ := List.mem_iff_getElem?.mp hp'
      obtain ⟨c', a1, a2, a3⟩ := still i' p' hi' hk'
      refine hno (c' - c) i' (by omega) (by rw [js, show c + (c' - c) = c' by omega]; exact a3) ?_
      show (es[i']?.map (·.1)).getD 0 = _
      rw [hashOf i' p' hi', hk']
theorem look (R : NSet w s.heap a L es ep t) (hL : ∀ p ∈ L, AtK s.heap p.1 p.2) {x : Addr} {k : NestedKey} (hx : AtK s.heap x k) (hu : A.units + 8 < cLine) {Q : SetFound → Shared → Prop}
    (hin : k ∈ L.map (·.2) → Q (.there none) s) (hout : ∀ K, EndsAt w t k K → k ∉ L.map (·.2) → Q (.free (way t.mask (k.hash w) K) false) s) :
    wpAny (model P w) A (setSearch a (.ref x) (k.hash w) true) Q E s := by
  have room := R.room
  obtain ⟨K, h1, h2, h3⟩ := R.tab.first (by rw [hsK_len]; omega) (k.hash w)
  have N : EndsAt w t k K := ⟨h1, h2, h3⟩
  have few : K < 100000 := by
    have four := R.four
    have : 10 * SetTable.turns t.mask ≤ 90000 := by
      unfold SetTable.turns
      rcases four with e | e | e | e | e <;> omega
    omega
  unfold setSearch
  refine look_on R hL hx hu N hin (fun h => hout K N h) 100000 0 none rfl (Nat.zero_le _) (by omega) fun i p hp hk => ?_
  have len : t.place.toList.length = L.length := by rw [Array.length_toList, R.tab.sz, hsK_len]
  have hj := List.getElem?_eq_getElem (show i < t.place.toList.length by rw [len]; exact (List.getElem?_eq_some_iff.mp hp).1)
  obtain ⟨c, hc, e⟩ := R.tab.before h2 (show (hsK w L)[i]? = some (k.hash w) by unfold hsK; rw [List.getElem?_map, hp, ← hk]; rfl) hj
  exact ⟨c, Nat.zero_le _, hc, by rw [hj, e]⟩
end
end DL
/-! ### a key put into a set of nested tuples -/
namespace DL
open PySem PySem.Spec PyProof.Rows L2 PySem.W
theorem size_308 : SetTable.sizeAbove (SetTable.grown 77) = 512 := by decide +kernel
theorem size_1228 : SetTable.sizeAbove (SetTable.grown 307) = 2048 := by decide +kernel
def rowK (w : World) (p : Addr × NestedKey) : Int × Value := (p.2.hash w, Value.ref p.1)
theorem rows_zip (w : World) : ∀ L : KL, (hsK w L).zip (valsK L) = L.map (rowK w)
  | [] => rfl
  | p :: r => by
    show (p.2.hash w, Value.ref p.1) :: (hsK w r).zip (valsK r) = _
    rw [rows_zip w r]
    rfl
theorem range_self {α : Type} (L : List α) : (List.range L.length).filterMap (fun i => L[i]?) = L := by
  have h : (List.range L.length).map (fun i => L[i]?) = L.map some := List.ext_getElem (by simp) fun i h1 h2 => by simp
  have h2 : (List.range L.length).filterMap (fun i => L[i]?) = ((List.range L.length).map fun i => L[i]?).filterMap id := by
    rw [List.filterMap_map]
    rfl
  rw [h2, h, List.filterMap_map]
  exact List.filterMap_some
theorem put_in {α : Type} (L : List α) (p : Nat) (x : α) : (L.take p ++ x :: L.drop p).Perm (x :: L) := by
  refine List.perm_middle.trans ?_
  rw [List.take_append_drop]
section
variable {P : Program} {w : World} {A : Around} {E : Value → Shared → Prop} {s : Shared} {a : Addr} {L : KL} {es : Array (Int × Value)} {ep : Nat} {t : SetTable}
theorem AtK.but {h h' : Heap} {b : Addr} {k : NestedKey} {o : Obj} (x : AtK h b k) (ho : h.get? a = some o) (hd : o.data = .set es ep t) (hs : Heap.SameBut a h h') : AtK h' b k :=
  ⟨NestedIs.at (fun c u vs n hc hv => (hs.2 c fun e => by
    rw [e, ho] at hc
    cases hc
    rw [hd] at hv
    cases hv).trans hc) _ _ x.is, x.dp, x.dry⟩
theorem AtK.keep {h h' : Heap} {b : Addr} {k : NestedKey} (x : AtK h b k) (hk : ∀ c o, h.get? c = some o → h'.get? c = some o) : AtK h' b k := ⟨NestedIs.at (fun c u vs n hc _ => hk c u hc) _ _ x.is, x.dp, x.dry⟩
/-- the table laid anew -/
theorem relaid_set {o : Obj} (ho : s.heap.get? a = some o) (hex : o.ExactSet) (hd : o.data = .set es ep t) (rows : es.toList = L.map (rowK w)) (T : TabW t (hsK w L)) (nd : (L.map (·.2)).Nodup) (pl : t.plain = true) (ld : w.params.followText "set-order" = true ∨ t.led = true) (hm : L.length ≤ t.mask)
    {n M : Nat} (hn : SetTable.sizeAbove n - 1 = M) (hM : Meets M) (h4 : (M = 7 ∨ M = 31 ∨ M = 127 ∨ M = 511 ∨ M = 2047)) (hb : SetTable.sizeAbove n ≤ 2048) (hr : L.length * 5 < M * 3) {Q : Unit → Shared → Prop}
    (hQ : ∀ h' L' es' ep' t', Heap.SameBut a s.heap h' → NSet w h' a L' es' ep' t' → L'.Perm L → Q () { s with heap := h' }) : wpAny (model P w) A (setRelay a n) Q E s := by
  have rz := rows
  rw [← rows_zip] at rz
  have sz := rows_len rz
  obtain ⟨t', order, e, pm, T', em, el, ep'⟩ := relaidW (t := t) (hs := es.map (·.1)) (wanted := n) hn hM (by rw [Array.size_map, sz]; omega)
  rw [Array.size_map, sz] at pm
  have made : (order.filterMap (es[·]?)).toList = (order.toList.filterMap fun i => L[i]?).map (rowK w) := by
    rw [List.map_filterMap]
    have : ∀ i : Nat, es[i]? = (L[i]?).map (rowK w) := fun i => by rw [← Array.getElem?_toList, rows, List.getElem?_map]
    first
      | (rw [Array.toList_filterMap]; exact congrArg (fun f => List.filterMap f order.toList) (funext this))
      | (simp [this])
  have pL : (order.toList.filterMap fun i => L[i]?).Perm L := by
    have := pm.filterMap fun i => L[i]?
    rwa [range_self] at this
  have hashes : ∀ l : List Nat, (∀ i ∈ l, i < L.length) → hsK w (l.filterMap fun i => L[i]?) = l.map fun i => (es.map (·.1)).getD i 0 := by
    intro l
    induction l with
    | nil => intro _; rfl
    | cons i l ih =>
      intro hl
      have hi := hl i List.mem_cons_self
      have g := List.getElem?_eq_getElem hi
      have e1 : (es.map (·.1))[i]? = some (L[i].2.hash w) := by rw [Array.getElem?_map, rows_at rz g]; rfl
      rw [List.filterMap_cons_some g, List.map_cons, ← ih fun j hj => hl j (List.mem_cons_of_mem _ hj)]
      show L[i].2.hash w :: _ = _
      rw [Array.getD_eq_getD_getElem?, e1]
      rfl
  rw [← hashes order.toList fun i hi => List.mem_range.mp (pm.mem_iff.mp hi)] at T'
  generalize (order.toList.filterMap fun i => L[i]?) = L' at made pL T'
  have sz' : (order.filterMap (es[·]?)).size = es.size := by
    have h := congrArg List.length made
    rw [Array.length_toList, List.length_map, pL.length_eq] at h
    rw [h, sz]
  rw [setRelay_eq]
  refine wpAny_bind (wpAny_setState_of ho hd (fits_of T (by rw [hsK_len, sz]) (by omega)) ?_)
  dsimp only
  refine wp_if_neg (by rw [sizeLine_eq]; omega) ?_
  try refine wpAny_bind (wpAny_pure ?_)
  rw [e]
  dsimp only
  refine wpAny_bind (wp_if_neg (by rw [sz']; simp) ?_)
  try refine wpAny_bind (wpAny_pure ?_)
  refine wpAny_pure ?_
  dsimp only
  have below : L.length ≤ 2048 := by rcases h4 with e | e | e | e | e <;> omega
  refine wpAny_storeSet_of ho hd ?_ (by rw [sz', sz, sizeLine_eq]; omega)
  have sb : Heap.SameBut a s.heap (s.heap.update a (Obj.putSet (order.filterMap (es[·]?)) t')) := Heap.SameBut.update ..
  exact hQ _ L' _ (ep + 1) t' sb ⟨⟨_, store_at ho hd, ⟨hex.1, hex.2.1, hex.2.2⟩, rfl⟩, by rw [rows_zip]; exact made, T', (pL.map (·.2)).nodup_iff.mpr nd, by rw [ep']; exact pl, by rw [el]; exact ld, by rw [pL.length_eq, em]; exact hr, by rw [em]; exact h4⟩ pL
theorem add_key (R : NSet w s.heap a L es ep t) (hL : ∀ p ∈ L, AtK s.heap p.1 p.2) {x : Addr} {k : NestedKey} (hx : AtK s.heap x k) (hu : A.units + 8 < cLine) (few : L.length < 1200) {Q : Bool → Shared → Prop}
    (hQ : ∀ b h' L' es' ep' t', Heap.SameBut a s.heap h' → NSet w h' a L' es' ep' t' → (k ∈ L.map (·.2) → L' = L) → (k ∉ L.map (·.2) → L'.Perm ((x, k) :: L)) → Q b { s with heap := h' }) :
    wpAny (model P w) A (setAddHashed a (.ref x) (k.hash w)) Q E s := by
  obtain ⟨o, ho, hex, hd⟩ := R.ob
  have sz := rows_len R.rows
  have room := R.room
  unfold setAddHashed
  refine wpAny_holding ?_
  rw [show (100000 : Nat) = 99999 + 1 from rfl, setAddHashedIn_succ]
  refine wpAny_bind (wpAny_setState_of ho hd R.fits ?_)
  dsimp only
  refine wp_if_neg (by simp [byScan, Value.scannable]) ?_
  try refine wpAny_bind (wpAny_pure ?_)
  refine wpAny_bind (look R hL hx hu (fun hm => ?_) fun K N hm => ?_)
  · dsimp only
    exact wpAny_pure (hQ false s.heap L es ep t (Heap.SameBut.refl a s.heap) R (fun _ => rfl) fun z => absurd hm z)
  · dsimp only
    refine wpAny_bind (wpAny_setState_of ho hd R.fits ?_)
    dsimp only
    obtain ⟨u1, u2, u3, u4, u5, u6, u9⟩ := R.tab.put N.free N.busy
    have pl : (t.put (way t.mask (k.hash w) K)).1.plain = true := by rw [u6]; exact R.plain
    have ld : w.params.followText "set-order" = true ∨ (t.put (way t.mask (k.hash w) K)).1.led = true := by rw [u5]; exact R.led
    generalize t.put (way t.mask (k.hash w) K) = tp at u1 u3 u4 u9 pl ld ⊢
    obtain ⟨t1, j⟩ := tp
    dsimp only at u1 u3 u4 u9 pl ld ⊢
    subst u1
    have byv : Calm1 P w (hashByValue 8 (.ref x)) true s := byV _ _ 8 hx.is hx.dp hx.dry
    first
      | (refine wpAny_bind ?_; refine wp_if_pos pl ?_; refine byv _ _ _ ?_)
      | refine wp_if_pos pl (wpAny_bind (byv _ _ _ ?_))
    simp only [if_true]
    generalize SetTable.below t.place (way t.mask (k.hash w) K) = j at u2 u3 ⊢
    have rows1 : (SetTable.insertAt es j (k.hash w, Value.ref x)).toList = (L.take j ++ (x, k) :: L.drop j).map (rowK w) := by
      rw [SetTable.toList_insertAt, R.rows, rows_zip, List.map_append, List.map_cons, List.map_take, List.map_drop]
      rfl
    have T1 : TabW t1 (hsK w (L.take j ++ (x, k) :: L.drop j)) := by
      have : hsK w (L.take j ++ (x, k) :: L.drop j) = (hsK w L).take j ++ k.hash w :: (hsK w L).drop j := by
        unfold hsK
        rw [List.map_append, List.map_cons, List.map_take, List.map_drop]
      rw [this]
      exact u3
    have pm := put_in L j (x, k)
    generalize L.take j ++ (x, k) :: L.drop j = L1 at rows1 T1 pm
    generalize SetTable.insertAt es j (k.hash w, Value.ref x) = es1 at rows1 ⊢
    have len1 : L1.length = L.length + 1 := pm.length_eq
    have nd1 : (L1.map (·.2)).Nodup := (pm.map (·.2)).nodup_iff.mpr (List.nodup_cons.mpr ⟨hm, R.nd⟩)
    have rz1 := rows1
    rw [← rows_zip] at rz1
    have sz1 := rows_len rz1
    refine wpAny_bind (wpAny_storeSet_of ho hd ?_ (by rw [sz1, sizeLine_eq]; omega))
    have sb : Heap.SameBut a s.heap (s.heap.update a (Obj.putSet es1 t1)) := Heap.SameBut.update ..
    have ho1 := store_at (es' := es1) (t' := t1) ho hd
    generalize s.heap.update a (Obj.putSet es1 t1) = h1 at sb ho1 ⊢
    by_cases hf : t1.tooFull = true
    · have full : (L.length + 1) * 5 ≥ t1.mask * 3 := by
        have h := hf
        unfold SetTable.tooFull at h
        rw [decide_eq_true_eq, u9, hsK_len] at h
        exact h
      have two : (t.mask = 7 ∧ L.length = 4) ∨ (t.mask = 31 ∧ L.length = 18) ∨ (t.mask = 127 ∧ L.length = 76) ∨ (t.mask = 511 ∧ L.length = 306) := by
        rcases R.four with e | e | e | e | e
        · left; rw [u4, e] at full; rw [e] at room; exact ⟨e, by omega⟩
        · right; left; rw [u4, e] at full; rw [e] at room; exact ⟨e, by omega⟩
        · right; right; left; rw [u4, e] at full; rw [e] at room; exact ⟨e, by omega⟩
        · right; right; right; rw [u4, e] at full; rw [e] at room; exact ⟨e, by omega⟩
        · exfalso; rw [u4, e] at full; omega
      first
        | (refine wpAny_bind ?_; refine wp_if_pos (by simp [hf]) ?_)
        | (refine wp_if_pos (by simp [hf]) ?_; refine wpAny_bind ?_)
      rw [sz]
      have go : ∀ M, SetTable.sizeAbove (SetTable.grown (L.length + 1)) - 1 = M → Meets M → (M = 7 ∨ M = 31 ∨ M = 127 ∨ M = 511 ∨ M = 2047) → SetTable.sizeAbove (SetTable.grown (L.length + 1)) ≤ 2048 → (L.length + 1) * 5 < M * 3 →
          wpAny (model P w) A (setRelay a (SetTable.grown (L.length + 1))) (fun _ s' => wpAny (model P w) A (pure true) Q E s') E { s with heap := h1 } := fun M q1 q2 q5 q3 q4 =>
        relaid_set (s := { s with heap := h1 }) ho1 ⟨hex.1, hex.2.1, hex.2.2⟩ rfl rows1 T1 nd1 pl ld (by rw [len1, u4]; rcases two with ⟨e, e2⟩ | ⟨e, e2⟩ | ⟨e, e2⟩ | ⟨e, e2⟩ <;> omega) q1 q2 q5 q3 (by rw [len1]; exact q4) fun h2 L2 es2 ep2 t2 sb2 R2 pm2 =>
          wpAny_pure (hQ true h2 L2 es2 ep2 t2 (sb.trans sb2) R2 (fun z => absurd z hm) fun _ => pm2.trans pm)
      rcases two with ⟨_, e2⟩ | ⟨_, e2⟩ | ⟨_, e2⟩ | ⟨_, e2⟩
      · exact go 31 (by rw [e2, size_20]) (meets_old (.inr (.inl rfl))) (.inr (.inl rfl)) (by rw [e2, size_20]; decide) (by omega)
      · exact go 127 (by rw [e2, size_76]) (meets_old (.inr (.inr rfl))) (.inr (.inr (.inl rfl))) (by rw [e2, size_76]; decide) (by omega)
      · exact go 511 (by rw [e2, size_308]) meets511 (.inr (.inr (.inr (.inl rfl)))) (by rw [e2, size_308]; decide) (by omega)
      · exact go 2047 (by rw [e2, size_1228]) meets2047 (.inr (.inr (.inr (.inr rfl)))) (by rw [e2, size_1228]; decide) (by omega)
    · first
        | refine wp_if_neg (by simp [hf]) ?_
        | (refine wpAny_bind ?_; refine wp_if_neg (by simp [hf]) ?_; refine wpAny_pure ?_)
      refine wpAny_pure (hQ true h1 L1 es1 (ep + 1) t1 sb ⟨⟨_, ho1, ⟨hex.1, hex.2.1, hex.2.2⟩, rfl⟩, rz1, T1, nd1, pl, ld, ?_, by rw [u4]; exact R.four⟩ (fun z => absurd z hm) fun _ => pm)
      have h := hf
      unfold SetTable.tooFull at h
      rw [decide_eq_true_eq, u9, hsK_len] at h
      rw [len1]
      omega
end
end DL
/-! ### tuples of any lengths sorted -/
namespace DL
open PySem PySem.Spec PySem.Calls PySem.W PyProof.Rows PySem.SeqAt
section
variable {M : Model} {A : Around} {E : Value → Shared → Prop} {s : Shared}
theorem kind_gen {vs : List Value} {x : Value} {fs : List (Option Value)} {Q : SortKind → Shared → Prop} (t : Firsts s.heap vs (some x :: fs)) (hn : none ∈ fs) (h : Q general' s) : wpAny M A (keyKind' vs.toArray) Q E s := by
  rw [kat_kind_eq, List.mapM_toArray, map_eq_pure_bind]
  refine wpAny_bind (wpAny_bind (firsts_run t (wpAny_pure ?_)))
  have no : ¬ (((some x :: fs).toArray.all fun x => x.isSome) = true) := by
    rw [List.all_toArray]
    intro h
    have := List.all_eq_true.mp h none (List.mem_cons_of_mem _ hn)
    cases this
  rw [if_neg no, if_pos (show (((some x :: fs).toArray[0]?.bind id).isSome = true) by simp)]
  exact wpAny_pure h
end
section
variable {prog : Program} {w : World} {A : Around} {E : Value → Shared → Prop} {s : Shared}
theorem genLt_tup {d d' : PyData} {a b : Value} {as bs : List Addr} {Q : Bool → Shared → Prop} (ra : Reads s.heap a d as) (rb : Reads s.heap b d' bs) (hal : alike d d' = true) (hn : d ≠ .none) (hu : A.units + min d.depth d'.depth < cLine) (hq : Q (dataLt d d') s) : wpAny (model prog w) A (keyLt' general' a b) Q E s := by
  rw [show keyLt' general' a b = oneLt' false a b from rfl, oneLt'_eq, if_neg Bool.false_ne_true]
  try refine wpAny_bind (wpAny_pure ?_)
  exact wpAny_bind (rcLt_alike d d' A s a b _ _ ra rb hal hn hu _ _ _ _ (wpAny_truthy_bool hq))
theorem firsts_of : ∀ {vs : List Value} {ds : List PyData}, EachIs (fun v d => ∃ as, Reads s.heap v d as) vs ds → (∀ d ∈ ds, ∃ r, d = .tuple r) → ∃ fs, Firsts s.heap vs fs ∧ (.tuple [] ∈ ds → none ∈ fs) ∧ (∀ x r dr, ds = .tuple (x :: r) :: dr → ∃ y fr, fs = some y :: fr ∧ (.tuple [] ∈ dr → none ∈ fr))
  | _, _, .nil, _ => ⟨[], PySem.Paired.nil, (fun h => nomatch h), fun _ _ _ h => (by cases h)⟩
  | _, _, .cons (b := d) ⟨as, r⟩ t, ht => by
    obtain ⟨fs, h1, h2, _⟩ := firsts_of t fun d hd => ht d (List.mem_cons_of_mem _ hd)
    obtain ⟨rest, rfl⟩ := ht d (List.mem_cons_self ..)
    cases r with
    | @tuple a o xs n _ _ ho hc hd hr =>
      have len := SeqAt.ReadsAll.length _ _ _ hr
      rw [Array.length_toList] at len
      refine ⟨xs[0]? :: fs, PySem.Paired.cons ⟨a, o, xs, n, rfl, ho, hc, hd, rfl⟩ h1, fun h => ?_, fun x r dr e => ?_⟩
      · rcases List.mem_cons.mp h with e | h
        · cases e
          have : xs.size = 0 := by simpa using len
          simp [this]
        · exact List.mem_cons_of_mem _ (h2 h)
      · cases e
        have : 0 < xs.size := by rw [len]; simp
        exact ⟨xs[0], fs, by rw [Array.getElem?_eq_getElem this], h2⟩
/-- tuples of any lengths -/
theorem sortsAt_tups {vs : List Value} {ds : List PyData} (e : EachIs (fun v d => ∃ as, Reads s.heap v d as) vs ds) (hal : AllAlike ds) (ht : ∀ d ∈ ds, ∃ r, d = .tuple r) (hu : ∀ d, d ∈ ds → A.units + d.depth < cLine) :
    SortsAt prog w A s (dataKind s.heap ds) vs := by
  by_cases no : (.tuple [] : PyData) ∈ ds
  case neg =>
    exact SortsAt.data e hal (.inl fun d hd => by
      obtain ⟨r, rfl⟩ := ht d hd
      cases r with
      | nil => exact absurd hd no
      | cons x r => exact ⟨x, r, rfl⟩) hu
  cases ds with
  | nil => cases no
  | cons d0 dr =>
    obtain ⟨r0, rfl⟩ := ht d0 (List.mem_cons_self ..)
    cases r0 with
    | nil => exact sortsAt_tup0 e hal ht hu
    | cons x0 r0 =>
      refine ⟨fun v hv => ?_, general', ?_, fun h2 E Q hq => ?_⟩
      · obtain ⟨d, hd, as, r⟩ := e.left v hv
        exact ⟨_, dataKind_some hal hd r⟩
      · intro E x y a b Q ha hb hq
        obtain ⟨d, as, hd, ra, rfl⟩ := dataKind_inv ha
        obtain ⟨d', as', hd', rb, rfl⟩ := dataKind_inv hb
        refine genLt_tup ra rb (hal d hd d' hd') (fun z => ?_) (Nat.lt_of_le_of_lt (Nat.add_le_add_left (Nat.min_le_left _ _) _) (hu d hd)) hq
        obtain ⟨r, rfl⟩ := ht d hd
        cases z
      · obtain ⟨fs, h1, _, h3⟩ := firsts_of e ht
        obtain ⟨y, fr, rfl, h4⟩ := h3 x0 r0 dr rfl
        refine kind_gen h1 (h4 ?_) hq
        rcases List.mem_cons.mp no with z | z
        · cases z
        · exact z
end
/-- data that are tuples of any lengths and may be sorted -/
def tupsOk (ds : List PyData) : Bool := ds.all fun d => noDict d && decide (d.depth ≤ 64) && ds.all (alike d) && tupB d
open L2
variable {X : Cx}
theorem sort_tups {pins : List (Addr × Obj)} {σ : L2.St} {H : Hp} {s : Shared} {A : Around} {E : Value → Shared → Prop} {its : List Value} {xs : List V} {ds : List PyData} {P : PySem.Fin → Shared → Prop} (I : Inv X pins σ H s) (hu : A.units + 70 < cLine) (rv : Vals xs its) (dv : DvA (fun _ => False) H xs ds) (hlim : ds.length ≤ LIM) (ok : tupsOk ds = true)
    (k : ∀ (ys : List V) (s3 : Shared), Inv X pins σ (upd H s.heap.objs.size (.lst ys)) s3 → (∀ M, DvA M H xs ds → DvA M H ys (sortD ds)) → P (.done (.ret .none)) s3) :
    wpAny (model X.prog X.w) A (Builtin.«list.sort» ⟨[.ref s.heap.objs.size], []⟩) P E { s with heap := s.heap.push (seqObj "list" its.toArray 0) } := by
  generalize hL : s.heap.push (seqObj "list" its.toArray 0) = hp
  have hat : hp.get? s.heap.objs.size = some (seqObj "list" its.toArray 0) := by rw [← hL]; exact Heap.get?_push_size _ rfl
  have old : ∀ b o, s.heap.get? b = some o → hp.get? b = some o := fun b o e => by rw [← hL]; exact Heap.get?_push_of_some _ e
  have hli : its.length = ds.length := by rw [← rv.length]; exact dv.length
  unfold tupsOk at ok
  simp only [Bool.and_eq_true, List.all_eq_true, decide_eq_true_eq] at ok
  have hal : AllAlike ds := fun d hd d' hd' => (ok d hd).1.2 d' hd'
  generalize hS : sortingHeap hp s.heap.objs.size its = hs
  have keep : ∀ b o, s.heap.get? b = some o → hs.get? b = some o := fun b o e => by
    rw [← hS]
    exact sortingHeap_old (Nat.ne_of_lt (Heap.lt_size e)) (old b o e)
  have er : EachIs (fun v d => ∃ as, Reads hs v d as) its ds := (sort_reads I rv dv fun d hd => (ok d hd).1.1.1).mono fun _ _ ⟨as, r⟩ => ⟨as, PyProof.Rows.Reads.keeps keep r⟩
  have e := each_vals rv dv
  have S : SortsAt X.prog X.w A { s with heap := hs } (dataKind hs ds) its := sortsAt_tups (s := { s with heap := hs }) er hal (fun d hd => by
    have z := (ok d hd).2
    cases d with
    | tuple r => exact ⟨r, rfl⟩
    | _ => cases z) fun d hd => by
      have z : d.depth ≤ 64 := (ok d hd).1.1.2
      omega
  subst hS
  refine list_sort_vals (s := { s with heap := hp }) hat S (by rw [hli]; exact lim_le hlim) ?_
  have hm : ds.map (fun d => d) = ds := List.map_id' ds
  have es := sortVals_data (enc := fun d : PyData => d) false e er (by rw [hm]; exact hal)
  rw [hm] at es
  obtain ⟨ys, hv, hpp⟩ := vals_each (P := fun x d => x ∈ xs ∧ ∀ M, DvA M H xs ds → Dv M H x d) es
  generalize (sortVals (dataKind (sortingHeap hp s.heap.objs.size its) ds) false its its) = out at hv ⊢
  obtain ⟨ep, he⟩ := sortedHeap_at (vs := its) (out := out.toArray) hat
  have hly : ys.length = ds.length := by
    rw [Paired.len hpp]
    exact List.length_mergeSort ..
  refine k ys _ (I.laid (t' := s.toks) (fun b o q => ?_) (Nat.le_refl _) ⟨by rw [hly]; exact lim_le hlim, _, ep, hv, he⟩) fun M h => paired_dva (pmapQ hpp fun x d z => z.2 M h)
  have hb : b < s.heap.objs.size := Heap.lt_size q
  rw [sortedHeap_old (Nat.ne_of_lt hb) (by rw [← hL, size_push']; exact Nat.lt_succ_of_lt hb)]
  exact old b o q
end DL
/-! ### sets of nested tuples as things; sorted -/
namespace DL
open PySem PySem.Spec PyProof.Rows L2 PySem.W
mutual
/-- the key that a nested tuple of numbers is -/
def nkOf : PyData → Option NestedKey
  | .int i => some (.num i)
  | .tuple ds => match nkOfs ds with
    | some ks => some (.tup ks)
    | none => none
  | _ => none
def nkOfs : List PyData → Option (List NestedKey)
  | [] => some []
  | d :: r => match nkOf d with
    | some k => match nkOfs r with
      | some ks => some (k :: ks)
      | none => none
    | none => none
end
mutual
theorem nk_data : ∀ (d : PyData) (k : NestedKey), nkOf d = some k → k.data = d ∧ dryK k = true
  | .int i, k, h => by
    unfold nkOf at h
    cases h
    exact ⟨rfl, rfl⟩
  | .tuple ds, k, h => by
    unfold nkOf at h
    split at h
    · rename_i ks hk
      cases h
      have := nks_data ds ks hk
      simp only [NestedKey.data, dryK, this.1, this.2, and_self]
    · cases h
  | .none, _, h => by simp [nkOf] at h
  | .bool _, _, h => by simp [nkOf] at h
  | .str _, _, h => by simp [nkOf] at h
  | .list _, _, h => by simp [nkOf] at h
  | .dict _, _, h => by simp [nkOf] at h
theorem nks_data : ∀ (ds : List PyData) (ks : List NestedKey), nkOfs ds = some ks → NestedKey.datas ks = ds ∧ dryA ks = true
  | [], ks, h => by
    unfold nkOfs at h
    cases h
    exact ⟨rfl, rfl⟩
  | d :: r, ks, h => by
    unfold nkOfs at h
    split at h
    · rename_i k hk
      split at h
      · rename_i kr hr
        cases h
        have h1 := nk_data d k hk
        have h2 := nks_data r kr hr
        simp only [NestedKey.datas, dryA, h1.1, h1.2, h2.1, h2.2, Bool.and_self, and_self]
      · cases h
    · cases h
end
section
variable {X : Cx} {pins : List (Addr × Obj)} {σ : L2.St} {H : Hp} {s : Shared} {M : Addr → Prop}
mutual
theorem dv_nk (I : Inv X pins σ H s) : ∀ (d : PyData) (k : NestedKey) (v : V) (u : Value), nkOf d = some k → Dv M H v d → RelV v u → NestedIs s.heap k u
  | .int i, k, v, u, h, dv, r => by
    unfold nkOf at h
    cases h
    cases dv with
    | atm q =>
      cases q
      obtain ⟨t, rfl⟩ := (show ∃ t, u = .int i t from r)
      exact .int i t
  | .tuple ds, k, v, u, h, dv, r => by
    unfold nkOf at h
    split at h
    · rename_i ks hk
      cases h
      cases dv with
      | atm q => cases q
      | @tup a xs _ _ ha _ hx =>
        cases (show u = Value.ref a from r)
        obtain ⟨_, its, rv, o, ho, hc, n, hd⟩ := (show ObjOk X.prog X.w H s.heap a (.tup xs) from I.hok a _ ha)
        exact .tup ho hc hd (by simpa using dvs_nk I ds ks xs its hk hx rv)
    · cases h
  | .none, _, _, _, h, _, _ => by simp [nkOf] at h
  | .bool _, _, _, _, h, _, _ => by simp [nkOf] at h
  | .str _, _, _, _, h, _, _ => by simp [nkOf] at h
  | .list _, _, _, _, h, _, _ => by simp [nkOf] at h
  | .dict _, _, _, _, h, _, _ => by simp [nkOf] at h
theorem dvs_nk (I : Inv X pins σ H s) : ∀ (ds : List PyData) (ks : List NestedKey) (vs : List V) (us : List Value), nkOfs ds = some ks → DvA M H vs ds → Vals vs us → NestedAll s.heap ks us
  | [], ks, vs, us, h, dv, r => by
    unfold nkOfs at h
    cases h
    cases dv
    cases r
    exact .nil
  | d :: ds, ks, vs, us, h, dv, r => by
    unfold nkOfs at h
    split at h
    · rename_i k hk
      split at h
      · rename_i kr hr
        cases h
        cases dv with
        | cons d1 d2 =>
          cases r with
          | cons r1 r2 => exact .cons (dv_nk I d k _ _ hk d1 r1) (dvs_nk I ds kr _ _ hr d2 r2)
      · cases h
    · cases h
end
/-- the thing at b reads as the key k -/
def KeyV (M : Addr → Prop) (H : Hp) (b : Addr) (k : NestedKey) : Prop := ∃ d, nkOf d = some k ∧ k.depth ≤ 8 ∧ Dv M H (.ref b) d
theorem KeyV.at_ {b : Addr} {k : NestedKey} (h : KeyV M H b k) (I : Inv X pins σ H s) : AtK s.heap b k := by
  obtain ⟨d, h1, h2, h3⟩ := h
  exact ⟨dv_nk I d k _ _ h1 h3 rfl, h2, (nk_data d k h1).2⟩
theorem KeyV.dv {b : Addr} {k : NestedKey} (h : KeyV M H b k) : Dv M H (.ref b) k.data := by
  obtain ⟨d, h1, _, h3⟩ := h
  rw [(nk_data d k h1).1]
  exact h3
theorem KeyV.up {M' : Addr → Prop} {H' : Hp} {b : Addr} {k : NestedKey} (h : KeyV M H b k) (hk : ∀ b o, H b = some o → ¬ M b → H' b = some o) (hm : ∀ b, M' b → M b ∨ H b = none) : KeyV M' H' b k := by
  obtain ⟨d, h1, h2, h3⟩ := h
  exact ⟨d, h1, h2, Dv.mono hk hm d _ h3⟩
end
def NSetO (w : World) (a : Addr) (L : KL) : HO := .ext fun h => ∃ es ep t, NSet w h a L es ep t
theorem NSet.keep {w : World} {h h' : Heap} {a : Addr} {L : KL} {es : Array (Int × Value)} {ep : Nat} {t : SetTable} (R : NSet w h a L es ep t) (k : ∀ o, h.get? a = some o → h'.get? a = some o) : NSet w h' a L es ep t := by
  obtain ⟨⟨o, ho, r⟩, a1, a2, a3, a4, a5, a6, a7⟩ := R
  exact ⟨⟨o, k o ho, r⟩, a1, a2, a3, a4, a5, a6, a7⟩
theorem nsetO_new {P : Program} {w : World} {H : Hp} {h : Heap} {a : Addr} {L : KL} {es : Array (Int × Value)} {ep : Nat} {t : SetTable} (R : NSet w h a L es ep t) : ObjOk P w H h a (NSetO w a L) := by
  obtain ⟨o, ho, _⟩ := R.ob
  exact ⟨⟨es, ep, t, R⟩, ⟨o, ho⟩, fun h1 h2 ⟨es', ep', t', R'⟩ k => ⟨es', ep', t', R'.keep k⟩⟩
theorem nset_fresh {w : World} {h : Heap} {a : Addr} (ho : h.get? a = some { cls := .type "set", dict := none, data := .set #[] 0 (.fresh 0 0 (!w.params.followText "set-order")) }) : NSet w h a [] #[] 0 (.fresh 0 0 (!w.params.followText "set-order")) where
  ob := ⟨_, ho, ⟨rfl, rfl, rfl⟩, rfl⟩
  rows := rfl
  tab := ⟨List.Pairwise.nil, rfl, rfl, meets_old (.inl rfl), (fun x hx => by cases hx), fun i h j hi => by simp [hsK] at hi⟩
  nd := List.nodup_nil
  plain := rfl
  led := by
    show _ ∨ (!w.params.followText "set-order") = true
    cases w.params.followText "set-order"
    · exact .inr rfl
    · exact .inl rfl
  room := by
    show 0 * 5 < 7 * 3
    decide
  four := .inl rfl
section
variable {X : Cx}
theorem add_keyO {pins : List (Addr × Obj)} {σ : L2.St} {H : Hp} {s : Shared} {E : Value → Shared → Prop} {Q : Value → Shared → Prop} {D b : Addr} {k : NestedKey} {L : KL} {M : Addr → Prop} (hu : X.A.units + 10 < cLine) (I : Inv X pins σ H s) (hb : KeyV M H b k) (hD : H D = some (NSetO X.w D L)) (hL : ∀ p ∈ L, KeyV M H p.1 p.2) (hf : L.length < 1200)
    (h : ∀ L' s', (k ∈ L.map (·.2) → L' = L) → (k ∉ L.map (·.2) → L'.Perm ((b, k) :: L)) → Inv X pins σ (upd H D (NSetO X.w D L')) s' → Q .none s') : wpAny (model X.prog X.w) X.A (call (.builtin "set.add") [.ref D, .ref b]) Q E s := by
  obtain ⟨es, ep, t, R⟩ := (show ∃ es ep t, NSet X.w s.heap D L es ep t from (I.hok D _ hD).1)
  obtain ⟨o, ho, hex, hd⟩ := R.ob
  have ab : AtK s.heap b k := hb.at_ I
  have aL : ∀ p ∈ L, AtK s.heap p.1 p.2 := fun p hp => (hL p hp).at_ I
  refine wpAny_call_entry F.slot_set_add ⟨o, ho, hex.1⟩ F.entry_set_add ?_ (F.args_set_add_2 _ _)
  unfold Builtin.«set.add» Builtin.Frozenset.oneOther
  simp only [List.isEmpty_nil, bind_assoc]
  unfold Builtin.Frozenset.addrOf setAdd
  refine wpAny_bind (wpAny_pure (wpAny_bind (wpAny_pure (wpAny_bind (wpAny_holding (wpAny_bind (ab.hash (by show X.A.units + 1 + 8 < cLine; omega) ?_)))))))
  refine add_key (s := { s with toks := s.toks + k.draws }) R aL ab (by show X.A.units + 1 + 8 < cLine; omega) hf fun _ h' L' es' ep' t' same R' c1 c2 => ?_
  obtain ⟨o', ho', _⟩ := R'.ob
  have I' : Inv X pins σ (upd H D (NSetO X.w D L')) { s with heap := h', toks := s.toks + k.draws } := I.write (e := D) (t' := s.toks + k.draws) (by rw [hD]; trivial) (.inl rfl) (fun c u ne e => (same.2 c ne).trans e) ⟨o', ho'⟩ (nsetO_new R')
  exact wpAny_pure ⟨_, rfl, h L' _ c1 c2 I'⟩
def tbN (w : World) (tx : TE) : TB := fun σ H Nx D => tx σ H fun y H1 => ∃ (M : Addr → Prop) (b : Addr) (k : NestedKey) (L : KL), y = .ref b ∧ KeyV M H1 b k ∧ H1 D = some (NSetO w D L) ∧ (∀ p ∈ L, KeyV M H1 p.1 p.2) ∧ L.length < 1200 ∧
  ∀ L', (k ∈ L.map (·.2) → L' = L) → (k ∉ L.map (·.2) → L'.Perm ((b, k) :: L)) → Nx (upd H1 D (NSetO w D L'))
theorem run_n {elt : Expr} {tx : TE} (hx : X.xe = fun _ _ => False) (hu : X.A.units + 10 < cLine) (he : PE X elt tx) : RunB X (mbS X elt) (tbN X.w tx) := ⟨fun {pins σ H s Nx D post E} I q k => by
  refine wpAny_mono (he.run pins s σ H _ I q) (fun u s1 h1 => ?_) fun u s' z => by rw [hx] at z; exact z.elim
  obtain ⟨y, H1, I1, r1, M, b, ks, L, rfl, hb, hD, hL, hf, nx⟩ := h1
  cases (show u = Value.ref b from r1)
  exact add_keyO hu I1 hb hD hL hf fun L' s2 c1 c2 I2 => k _ _ I2 (nx L' c1 c2)⟩
theorem ga_n {elt tg iter : Expr} {ifs : List Expr} {scope : Scope} {pos : Pos} : Ga X (.SetComp elt [⟨tg, iter, ifs, 0⟩] scope pos) (newSet (.type "set")) tg iter ifs (fun D => NSetO X.w D []) (mbS X elt) where
  cl := rfl
  new := fun {pins σ H s A E Q} I k => PpSet.newSet_ok (k _ (I.laid (a := s.heap.objs.size) (o := NSetO X.w s.heap.objs.size []) (t' := s.toks) (fun _ _ e => Heap.get?_push_of_some _ e) (Nat.le_refl _) (nsetO_new (nset_fresh (Heap.get?_push_size _ rfl)))))
  loop := fun I turn n h => PpSet.compLoopS_any I turn n h
  start := fun h0 h => PpSet.codeAny_compStart_set h0 h
theorem perm_map {α β : Type} {f : α → β} : ∀ {vs : List β} {L : List α}, vs.Perm (L.map f) → ∃ L' : List α, L'.Perm L ∧ vs = L'.map f
  | [], L, p => ⟨[], by
    have := p.length_eq
    rw [List.length_nil, List.length_map] at this
    rw [List.eq_nil_of_length_eq_zero this.symm], rfl⟩
  | v :: r, L, p => by
    obtain ⟨x, hx, rfl⟩ := List.mem_map.mp (p.mem_iff.mp (List.mem_cons_self ..))
    obtain ⟨a, b, rfl⟩ := List.append_of_mem hx
    have p2 : (f x :: r).Perm (f x :: (a ++ b).map f) := p.trans (by
      rw [List.map_append, List.map_cons, List.map_append]
      exact List.perm_middle)
    obtain ⟨L', q1, rfl⟩ := perm_map (p2.cons_inv)
    exact ⟨x :: L', (q1.cons x).trans List.perm_middle.symm, rfl⟩
theorem dva_map {M : Addr → Prop} {H : Hp} : ∀ {L : KL}, (∀ p ∈ L, Dv M H (.ref p.1) p.2.data) → DvA M H (L.map fun p => V.ref p.1) (L.map fun p => p.2.data)
  | [], _ => .nil
  | p :: r, h => .cons (h p (List.mem_cons_self ..)) (dva_map fun q hq => h q (List.mem_cons_of_mem _ hq))
theorem vals_refsK : ∀ L : KL, Vals (L.map fun p => V.ref p.1) (valsK L)
  | [] => .nil
  | p :: r => .cons rfl (vals_refsK r)
/-- sorted(a set of nested tuples) -/
def rSortN (w : World) : List V → Hp → VK → Prop := fun vs H Q => ∃ (a : Addr) (L : KL), vs = [V.ref a] ∧ H a = some (NSetO w a L) ∧ (∃ M, ∀ p ∈ L, KeyV M H p.1 p.2) ∧ L.length ≤ 1200 ∧ tupsOk (L.map fun p => p.2.data) = true ∧
  ∀ (L' : KL) (ys : List V) (p : Addr), L'.Perm L → H p = none → (∀ M : Addr → Prop, (∀ q ∈ L, KeyV M H q.1 q.2) → DvA M H ys (sortD (L'.map fun q => q.2.data))) → Q (.ref p) (upd H p (.lst ys))
theorem tupsOk_perm {ds es : List PyData} (p : ds.Perm es) (h : tupsOk es = true) : tupsOk ds = true := by
  unfold tupsOk at h ⊢
  simp only [Bool.and_eq_true, List.all_eq_true] at h ⊢
  intro d hd
  obtain ⟨⟨h1, h2⟩, h3⟩ := h d (p.mem_iff.mp hd)
  exact ⟨⟨h1, fun e he => h2 e (p.mem_iff.mp he)⟩, h3⟩
theorem cr_sortN (hc : X.calm = true) (hu : X.A.units + 100 < cLine) : CallR X (.builtin "sorted") (rSortN X.w) := by
  intro pins s σ H vs us Q I r h
  obtain ⟨a, L, rfl, ha, ⟨M0, hk⟩, hlen, ok, q⟩ := h
  rw [Vals.ref1 r]
  obtain ⟨es, ep, t, R⟩ := (show ∃ es ep t, NSet X.w s.heap a L es ep t from (I.hok a _ ha).1)
  obtain ⟨o, ho, hex, hd⟩ := R.ob
  have sz := rows_len R.rows
  refine Calls.call_function_entry kind_sorted plain_sorted entry_sorted (args_sorted1 _) ?_
  unfold Builtin.«sorted»
  refine wpAny_bind (m := checkCount "sorted" 1 1 _) (wpAny_pure ?_)
  refine wpAny_bind (collect_set (A := X.A.in1) (I.ok.hd hc) ⟨o, ho, hex.1, hd⟩ R.fits (by unfold scanBound; omega) R.tab.ris R.led fun s1 vs k1 hz g1 o1 pm => ?_)
  have hv : es.toList.map (·.2) = L.map fun p => Value.ref p.1 := by
    rw [R.rows, rows_zip, List.map_map]
    rfl
  rw [hv] at pm
  obtain ⟨L', pL, rfl⟩ := perm_map pm
  have e1 : s1 = { s with heap := s1.heap, gens := s1.gens, drawn := s1.drawn, toks := s1.toks } := by
    cases s1
    cases s
    cases o1
    rfl
  have I1 : Inv X pins σ H { s with heap := s1.heap, gens := s1.gens, drawn := s1.drawn, toks := s1.toks } := I.call (ch := []) (Un.kept k1) (I.hok.kept k1) (by rw [g1]; exact I.bare) (fun _ z => nomatch z)
  rw [← e1] at I1
  have kL : ∀ p ∈ L', KeyV M0 H p.1 p.2 := fun p hp => hk p (pL.mem_iff.mp hp)
  have ll := pL.length_eq
  refine wpAny_bind (wpAny_newList ?_ (by rw [List.length_map, sizeLine_eq]; omega))
  refine wpAny_bind (wpAny_holding ?_)
  refine wpAny_call_entry PyProof.Rows.slot_list_sort ⟨_, Heap.get?_push_size _ rfl, rfl⟩ PyProof.Rows.entry_list_sort
    (sort_tups (s := s1) (ds := L'.map fun p => p.2.data) I1 (by show X.A.units + 1 + 1 + 70 < cLine; omega) (vals_refsK L') (dva_map fun p hp => ((kL p hp).up (M' := fun _ => False) (fun b o e _ => e) (fun b m => m.elim)).dv) (by rw [List.length_map]; show L'.length ≤ 1000000; omega) (tupsOk_perm (pL.map fun p : Addr × NestedKey => p.2.data) ok) fun ys s3 I3 hy => ⟨.none, rfl, ?_⟩) (PyProof.Rows.args_list_sort _)
  exact wpAny_pure ⟨_, rfl, .ref s1.heap.objs.size, _, I3, rfl, q L' ys _ pL (I1.hok.fresh (Nat.le_refl _)) fun M h => hy M (dva_map fun p hp => (h p (pL.mem_iff.mp hp)).dv)⟩
end
end DL
/-! ### sorted({f(x) for ..}), the items nested tuples of numbers -/
namespace DL
open PySem PySem.Spec PyProof.Rows L2 PySem.W
mutual
theorem nk_eqv : ∀ (k m : NestedKey), dryK k = true → dryK m = true → PyData.eqv k.data m.data = true → k = m
  | .none, .none, _, _, _ => rfl
  | .num i, .num j, _, _, h => by
    simp only [NestedKey.data, PyData.eqv, beq_iff_eq, decide_eq_true_eq] at h
    rw [h]
  | .tup a, .tup b, ha, hb, h => by
    simp only [NestedKey.data, PyData.eqv] at h
    simp only [dryK] at ha hb
    rw [nks_eqv a b ha hb h]
  | .none, .num _, _, _, h => by simp [NestedKey.data, PyData.eqv] at h
  | .none, .tup _, _, _, h => by simp [NestedKey.data, PyData.eqv] at h
  | .num _, .none, _, _, h => by simp [NestedKey.data, PyData.eqv] at h
  | .num _, .tup _, _, _, h => by simp [NestedKey.data, PyData.eqv] at h
  | .tup _, .none, _, _, h => by simp [NestedKey.data, PyData.eqv] at h
  | .tup _, .num _, _, _, h => by simp [NestedKey.data, PyData.eqv] at h
  | .text _, _, h, _, _ => by cases h
  | .none, .text _, _, h, _ => by cases h
  | .num _, .text _, _, h, _ => by cases h
  | .tup _, .text _, _, h, _ => by cases h
theorem nks_eqv : ∀ (ks ms : List NestedKey), dryA ks = true → dryA ms = true → PyData.eqvAll (NestedKey.datas ks) (NestedKey.datas ms) = true → ks = ms
  | [], [], _, _, _ => rfl
  | [], _ :: _, _, _, h => by simp [NestedKey.datas, PyData.eqvAll] at h
  | _ :: _, [], _, _, h => by simp [NestedKey.datas, PyData.eqvAll] at h
  | k :: ks, m :: ms, ha, hb, h => by
    simp only [NestedKey.datas, PyData.eqvAll, Bool.and_eq_true] at h
    simp only [dryA, Bool.and_eq_true] at ha hb
    rw [nk_eqv k m ha.1 hb.1 h.1, nks_eqv ks ms ha.2 hb.2 h.2]
end
theorem lt_or {x y : PyData} (h : alike x y = true) (e : PyData.eqv x y = false) : dataLt x y = true ∨ dataLt y x = true := by
  cases h1 : dataLt x y with
  | true => exact .inl rfl
  | false =>
    cases h2 : dataLt y x with
    | true => exact .inr rfl
    | false =>
      have q : keyToks x = keyToks y := lex_total (O := itemOrd) _ _ h1 h2
      have z := (toks_eqv x y h).2 e [] [.inl 0]
      rw [q] at z
      have z1 : lexLt itemOrd (keyToks y ++ []) (keyToks y ++ [.inl 0]) = lexLt itemOrd [] [.inl 0] := lex_pre (keyToks y) [] [.inl 0]
      have z2 : lexLt itemOrd (keyToks y) (keyToks y) = false := lex_irrefl (O := itemOrd) _
      rw [z1] at z
      first
        | (rw [z2] at z; cases z)
        | (have := z.1; rw [z2] at this; cases this)
theorem pw_uniq {α : Type} {lt : α → α → Bool} : ∀ {a b : List α}, a.Perm b → (∀ x ∈ a, ∀ y ∈ a, x = y ∨ lt x y = true ∨ lt y x = true) → a.Pairwise (fun x y => lt y x = false) → b.Pairwise (fun x y => lt y x = false) → a = b
  | [], b, p, _, _, _ => (List.nil_perm.mp p).symm
  | x :: a, [], p, _, _, _ => by have := p.length_eq; simp at this
  | x :: a, y :: b, p, t, h1, h2 => by
    obtain ⟨p1, p2⟩ := List.pairwise_cons.mp h1
    obtain ⟨q1, q2⟩ := List.pairwise_cons.mp h2
    have e : x = y := by
      have hy : y ∈ x :: a := p.mem_iff.mpr (List.mem_cons_self ..)
      have hx : x ∈ y :: b := p.mem_iff.mp (List.mem_cons_self ..)
      rcases List.mem_cons.mp hy with e | hy
      · exact e.symm
      · rcases List.mem_cons.mp hx with e | hx
        · exact e
        · have f1 := p1 y hy
          have f2 := q1 x hx
          rcases t x (List.mem_cons_self ..) y (List.mem_cons_of_mem _ hy) with e | e | e
          · exact e
          · rw [e] at f2; cases f2
          · rw [e] at f1; cases f1
    subst e
    rw [pw_uniq p.cons_inv (fun u hu v hv => t u (List.mem_cons_of_mem _ hu) v (List.mem_cons_of_mem _ hv)) p2 q2]
theorem sortD_pw (ds : List PyData) : (sortD ds).Pairwise (fun x y => dataLt y x = false) := by
  have T := sortLe_total (listOrd itemOrd) false (fun x : PyData => keyToks x)
  have pw := List.pairwise_mergeSort (le := dataLe false fun d => d) (fun x y z h1 h2 => T.trans x y z h1 h2) (fun x y => by rw [Bool.or_eq_true]; exact T.total x y) ds
  refine pw.imp fun {x y} h => ?_
  have h : (!dataLt y x) = true := h
  simpa using h
/-- the keys in the order of their tuples -/
def sortK (acc : List NestedKey) : List PyData := sortD (acc.map NestedKey.data)
theorem sortK_perm {a b : List NestedKey} (p : a.Perm b) (ok : tupsOk (b.map NestedKey.data) = true) (dry : ∀ k ∈ b, dryK k = true) : sortK a = sortK b := by
  have pm : (a.map NestedKey.data).Perm (b.map NestedKey.data) := p.map _
  refine pw_uniq (lt := dataLt) ((List.mergeSort_perm _ _).trans (pm.trans (List.mergeSort_perm _ _).symm)) (fun x hx y hy => ?_) (sortD_pw _) (sortD_pw _)
  have mx := pm.mem_iff.mp ((List.mergeSort_perm _ _).mem_iff.mp hx)
  have my := pm.mem_iff.mp ((List.mergeSort_perm _ _).mem_iff.mp hy)
  unfold tupsOk at ok
  simp only [Bool.and_eq_true, List.all_eq_true] at ok
  have al := (ok x mx).1.2 y my
  cases e : PyData.eqv x y with
  | false => exact .inr (lt_or al e)
  | true =>
    obtain ⟨k, hk, rfl⟩ := List.mem_map.mp mx
    obtain ⟨m, hm, rfl⟩ := List.mem_map.mp my
    rw [nk_eqv k m (dry k hk) (dry m hm) e]
    exact .inl rfl
def pxN (x : X1) : DE → Wd → List NestedKey → Option (List NestedKey × Wd) := fun e w acc => match x e w with
  | some (.v d, w1) => match nkOf d with
    | some k => if acc.length < 1190 ∧ tupB d = true ∧ k.depth ≤ 8 then some (if k ∈ acc then acc else acc ++ [k], w1) else none
    | none => none
  | _ => none
theorem sz_N {x : X1} {e : DE} {w w' : Wd} {acc acc' : List NestedKey} (h : pxN x e w acc = some (acc', w')) : acc'.length ≤ acc.length + 1 := by
  unfold pxN at h
  split at h
  · split at h
    · split at h
      · cases h
        split <;> simp
      · cases h
    · cases h
  · cases h
def gaN (w : World) (M : Addr → Prop) (H : Hp) (D : Addr) (acc : List NestedKey) : Prop := (∃ L : KL, H D = some (NSetO w D L) ∧ (∀ p ∈ L, KeyV M H p.1 p.2) ∧ (L.map (·.2)).Perm acc) ∧ acc.length ≤ 1190 ∧ ∀ k ∈ acc, dryK k = true
theorem keeps_N {w : World} : Keeps (gaN w) := ⟨fun {M M' H H' D acc} a hD nm lm => by
  obtain ⟨⟨L, h1, h2, h3⟩, h4⟩ := a
  exact ⟨⟨L, hD _ h1, fun p hp => (h2 p hp).up nm lm, h3⟩, h4⟩⟩
theorem puts_N {w : World} {x : X1} : Puts (tbN w (tD x)) (pxN x) (gaN w) List.length := fun {P' α e w0 w' σ H D acc acc' Nx} R hp ha hl k => by
  unfold pxN at hp
  split at hp
  · rename_i d w1 h1
    split at hp
    · rename_i p h2
      split at hp
      · rename_i h60
        cases hp
        refine ⟨_, α, e, w0, _, _, R, h1, fun y H1 α1 u R1 i1 => ?_⟩
        have nD : D ∉ α := fun m => R.pa D m (.inr rfl)
        obtain ⟨⟨L, hD, hL, pm⟩, _, lo⟩ := (keeps_N (w := w)).up ha (fun o q => u.kp D o q nD) (fun b o q n => u.kp b o q fun hb => n (.inr (.inl hb))) fun b m => Msk.up u m
        have dv : Dv (Msk (fun b => P' b ∨ b = D) α1 e σ) H1 y d := i1
        obtain ⟨b, rfl⟩ : ∃ b, y = .ref b := by
          cases dv with
          | atm q => cases q <;> cases h60.2.1
          | lst => exact ⟨_, rfl⟩
          | tup => exact ⟨_, rfl⟩
          | dct => exact ⟨_, rfl⟩
          | dcm => exact ⟨_, rfl⟩
        have kb : KeyV (Msk (fun b => P' b ∨ b = D) α1 e σ) H1 b p := ⟨d, h2, h60.2.2, dv⟩
        have hlen : L.length = acc.length := by
          have := pm.length_eq
          simpa using this
        have mem : p ∈ L.map (·.2) ↔ p ∈ acc := pm.mem_iff
        refine ⟨Msk (fun b => P' b ∨ b = D) α1 e σ, b, p, L, rfl, kb, hD, hL, by omega, fun L' c1 c2 => k H1 α1 _ u R1 trivial (R1.turn trivial) ?_⟩
        have up : ∀ {c : Addr} {q : NestedKey}, KeyV (Msk (fun b => P' b ∨ b = D) α1 e σ) H1 c q → KeyV (Msk (fun b => P' b ∨ b = D) α1 e σ) (upd H1 D (NSetO w D L')) c q := fun q => q.up (fun c o e n => by
          rw [upd_ne (fun z => n (.inl (.inr z)))]
          exact e) fun c m => .inl m
        by_cases h : p ∈ acc
        · rw [if_pos h]
          have e1 := c1 (mem.mpr h)
          subst e1
          exact ⟨⟨L', upd_same, fun q hq => up (hL q hq), pm⟩, Nat.le_of_lt h60.1, lo⟩
        · rw [if_neg h]
          have pm2 := c2 (fun z => h (mem.mp z))
          refine ⟨⟨L', upd_same, fun q hq => ?_, ?_⟩, by simp; omega, fun q hq => ?_⟩
          · rcases List.mem_cons.mp (pm2.mem_iff.mp hq) with rfl | hq
            · exact up kb
            · exact up (hL q hq)
          · have q := pm2.map (fun x : Addr × NestedKey => x.2)
            rw [List.map_cons] at q
            exact (q.trans (pm.cons p)).trans (List.perm_append_singleton p acc).symm
          · rcases List.mem_append.mp hq with hq | hq
            · exact lo q hq
            · rw [List.mem_singleton.mp hq]; exact (nk_data d p h2).2
      · cases hp
    · cases hp
  · cases hp
def xSrtN (vs : List Nat) (it : I1) (g : G1) (t : T1) (x : X1) : X1 := fun e w => if okW e vs then match it e w with
  | some (ds, w1) => match gaGo g t (pxN x) (wipeE e vs) ds [] w1 with
    | some (acc, w2) => if tupsOk (acc.map NestedKey.data) = true then some (.v (.list (sortK acc)), w2) else none
    | none => none
  | none => none
  else none
section
variable {X : Cx}
theorem d_srtN {elt tg iter : Expr} {ifs : List Expr} {scope : Scope} {own : List (Str × Nat)} {p pos pos1 : Pos} {wi : TI} {it : I1} {gt : TG} {g : G1} {t : T1} {x : X1} {vs' : List Nat} (hc : X.calm = true) (hu : X.A.units + 100 < cLine) (hgl : Gl X "sorted") (hm : X.mg "sorted" = none) (hN : X.N.Nodup) (hi : PI X tg iter wi) (so : SrcOw wi it) (ok : BlkOk X.N X.env.scope scope own)
    (hg : ∀ (s : Shared) (H : Hp) (C : Addr) (cl : List (Str × Addr)) (fp : List Addr), PG (X.blk s H scope (compEnvC scope cl C X.env) fp) tg gt) (gd : GD gt g vs') (hvs : ∀ i ∈ vs', i ∈ own.map (·.2))
    (ht : ∀ (s : Shared) (H : Hp) (C : Addr) (cl : List (Str × Addr)) (fp : List Addr), PTs (X.blk s H scope (compEnvC scope cl C X.env) fp) ifs (tDT t))
    (he : ∀ (s : Shared) (H : Hp) (C : Addr) (cl : List (Str × Addr)) (fp : List Addr), PE (X.blk s H scope (compEnvC scope cl C X.env) fp) elt (tD x)) (hs : ∀ x, foldedSetIterable iter X.env x = pure x := by intro _; rfl)
    (na : starEach [.SetComp elt [⟨tg, iter, ifs, 0⟩] scope pos1] X.env = (false, eval (.SetComp elt [⟨tg, iter, ifs, 0⟩] scope pos1) X.env) :: starEach [] X.env := by rfl) (ha : (backTo pos (starEach [] X.env)).any (·.1) = false := by rfl) :
    PE X (.Call (.Name "sorted" p) [.SetComp elt [⟨tg, iter, ifs, 0⟩] scope pos1] [] pos) (tD (xSrtN (own.map (·.2)) it g t x)) :=
  (pe_callB (cr_sortN hc hu) hgl hm boot_sorted_ (pa_cons (pe_ga (o0 := fun D => NSetO X.w D []) (mb := mbS X elt) (tb := tbN X.w (tD x)) (scope := scope) (pos' := firstIterPos [⟨tg, iter, ifs, 0⟩] pos1) ga_n rfl hc hN hi ok hg ht (fun s H C cl fp => run_n (X := X.blk s H scope (compEnvC scope cl C X.env) fp) rfl (by show X.A.units + 10 < cLine; omega) (he s H C cl fp)) hs) pa_nil na) (by decide) (by decide) na ha).imp fun σ H Q q => by
    obtain ⟨P, α, e, w, r, wE, R, hf, k⟩ := q
    unfold xSrtN at hf
    by_cases hk' : okW e (own.map (·.2)) = true
    case neg => rw [if_neg hk'] at hf; cases hf
    rw [if_pos hk'] at hf
    split at hf
    · rename_i items w1 h1
      split at hf
      · rename_i acc w2 h2
        split at hf
        · rename_i okT
          cases hf
          show tGa (fun D => NSetO X.w D []) wi gt (tDT t) (tbN X.w (tD x)) (own.map (·.2)) σ H fun v H1 => rSortN X.w [v] H1 Q
          refine ga_step (o0 := fun D => NSetO X.w D []) (acc0 := ([] : List NestedKey)) so gd hvs (keeps_N (w := X.w)) puts_N (fun _ => trivial) (fun M H D h => ⟨⟨[], upd_same, (fun p hp => nomatch hp), .nil⟩, Nat.zero_le _, (fun p hp => nomatch hp)⟩) rfl (fun e w acc acc' w' h => sz_N h) R hk' h1 h2 fun D H' α' u hD R' nP a hz => ?_
          obtain ⟨⟨L, hL, hk, pm⟩, h75, dry⟩ := a
          have len : L.length = acc.length := by
            have := pm.length_eq
            simpa using this
          have pmd : (L.map fun p => p.2.data).Perm (acc.map NestedKey.data) := by
            have := pm.map NestedKey.data
            rwa [List.map_map] at this
          refine ⟨D, L, rfl, hL, ⟨_, hk⟩, by omega, tupsOk_perm pmd okT, fun L' ys p pL hp hy => ?_⟩
          have e1 : sortD (L'.map fun q => q.2.data) = sortK acc := by
            have := sortK_perm ((pL.map fun z : Addr × NestedKey => z.2).trans pm) okT dry
            unfold sortK at this
            rw [List.map_map] at this
            exact this
          have R2 : Rel P α' e wE σ H' := R'.lessP fun b => .inl
          have sm : Same H' (upd H' p (.lst ys)) := same_upd hp
          have dv := hy (Msk P α' e σ) fun q hq => (hk q hq).up (fun b o e _ => e) fun b m => .inl (Msk.more m)
          rw [e1] at dv
          refine k _ _ α' (u.trans (.of_same sm)) (R2.same sm) (new_lst R2.mut hp dv ?_)
          unfold sortK sortD
          rw [List.length_mergeSort, List.length_map]
          show acc.length ≤ 1000000
          omega
        · cases hf
      · cases hf
    · cases hf
end
end DL
/-! ### set(xs), the items nested tuples of numbers -/
namespace DL
open PySem PySem.Spec PyProof.Rows L2 PySem.W
/-- what the set has of the first i -/
structure GotK (ks : KL) (i : Nat) (L : KL) : Prop where
  sub : ∀ p ∈ L, p ∈ ks.take i
  all : ∀ p ∈ ks.take i, p.2 ∈ L.map (·.2)
theorem GotK.zero (ks : KL) : GotK ks 0 [] := ⟨fun p h => (by cases h), fun p h => (by simp at h)⟩
theorem take_one {α : Type} {l : List α} {i : Nat} {x : α} (h : l[i]? = some x) : l.take (i + 1) = l.take i ++ [x] := by
  rw [List.take_succ, h]
  rfl
theorem GotK.step {ks L L' : KL} {i : Nat} {x : Addr × NestedKey} (g : GotK ks i L) (h : ks[i]? = some x) (c1 : x.2 ∈ L.map (·.2) → L' = L) (c2 : x.2 ∉ L.map (·.2) → L'.Perm (x :: L)) : GotK ks (i + 1) L' := by
  by_cases hm : x.2 ∈ L.map (·.2)
  · rw [c1 hm]
    refine ⟨fun p hp => by rw [take_one h]; exact List.mem_append_left _ (g.sub p hp), fun p hp => ?_⟩
    rw [take_one h] at hp
    rcases List.mem_append.mp hp with z | z
    · exact g.all p z
    · rw [List.mem_singleton.mp z]; exact hm
  · have pm := c2 hm
    refine ⟨fun p hp => ?_, fun p hp => ?_⟩
    · rw [take_one h]
      rcases List.mem_cons.mp (pm.mem_iff.mp hp) with rfl | z
      · exact List.mem_append_right _ (List.mem_singleton.mpr rfl)
      · exact List.mem_append_left _ (g.sub p z)
    · rw [(pm.map (·.2)).mem_iff, List.map_cons]
      rw [take_one h] at hp
      rcases List.mem_append.mp hp with z | z
      · exact List.mem_cons_of_mem _ (g.all p z)
      · rw [List.mem_singleton.mp z]; exact List.mem_cons_self
section
variable {P : Program} {w : World} {A : Around} {E : Value → Shared → Prop} {s : Shared}
theorem set_update_keys {I : Addr} {fp wr : List Addr} {G : Array GenState → Array GenState → Prop} {n : Nat} {Pv : Nat → Value → Prop} {St : Nat → Shared → Prop} {R : Result → Shared → Prop}
    (W : WalksS P w A.in1 I fp wr G n Pv St) (S : Addr) (hSf : S ∉ fp) (ks : KL) (hn : n = ks.length) (few : ∀ L : KL, (L.map (·.2)).Nodup → (∀ p ∈ L, p ∈ ks) → L.length ≤ 1190) (hval : ∀ i v, Pv i v → ∃ p, ks[i]? = some p ∧ v = .ref p.1)
    (h0 : Heap) (hk : ∀ p ∈ ks, AtK h0 p.1 p.2) (hS0 : h0.get? S = none) (hw0 : ∀ b ∈ wr, h0.get? b = none) (hu : A.in1.units + 8 < cLine) :
    ∀ (m i : Nat) (s : Shared), n - i = m → i ≤ n → St i s → (∀ b o, h0.get? b = some o → s.heap.get? b = some o) → (∃ L es ep t, NSet w s.heap S L es ep t ∧ GotK ks i L) →
      (∀ s' L es ep t, Moved (S :: wr) G s s' → NSet w s'.heap S L es ep t → GotK ks n L → (∀ b o, h0.get? b = some o → s'.heap.get? b = some o) → R (.ok (.ret .none)) s') →
      codeAny (model P w) A (.builtin "set.update.loop" ⟨[.ref S, .ref I], []⟩) R s := by
  have hSw : S ∉ wr := fun h => hSf (W.sub _ h)
  have wide : ∀ b ∈ wr, b ∈ S :: wr := fun b hb => List.mem_cons_of_mem _ hb
  have stay : ∀ {a b : Shared}, Moved wr G a b → (∀ c o, h0.get? c = some o → a.heap.get? c = some o) → ∀ c o, h0.get? c = some o → b.heap.get? c = some o := fun hm kp c o e =>
    hm.heap c o (fun hb => by rw [hw0 c hb] at e; cases e) (kp c o e)
  intro m
  induction m with
  | zero =>
    intro i s hm hi st kp ⟨L, es, ep, t, N, g⟩ hR
    obtain rfl : i = n := by omega
    refine codeAny_builtin F.entry_set_update_loop ?_
    rw [Around.under_plainId F.plain_set_update_loop _]
    show wpAny _ A.in1 (pyNext (.ref I) >>= _) _ _ s
    refine wpAny_bind (W.done s _ _ st fun s' mv => ?_)
    show wpAny _ A.in1 (ret Value.none) _ _ s'
    exact wpAny_pure (hR s' L es ep t (mv.mono wide) (N.keep fun o e => mv.heap S o hSw e) g (stay mv kp))
  | succ m ih =>
    intro i s hm hi st kp ⟨L, es, ep, t, N, g⟩ hR
    have lt : i < n := by omega
    refine codeAny_builtin F.entry_set_update_loop ?_
    rw [Around.under_plainId F.plain_set_update_loop _]
    show wpAny _ A.in1 (pyNext (.ref I) >>= _) _ _ s
    refine wpAny_bind (W.item i s _ _ lt st fun v s' pv st' mv => ?_)
    obtain ⟨p, hp, rfl⟩ := hval i v pv
    have kp' := stay mv kp
    have inks : ∀ q ∈ L, q ∈ ks := fun q hq => List.mem_of_mem_take (g.sub q hq)
    have N' : NSet w s'.heap S L es ep t := N.keep fun o e => mv.heap S o hSw e
    have at_ : ∀ q ∈ ks, AtK s'.heap q.1 q.2 := fun q hq => (hk q hq).keep kp'
    have ap := at_ p (List.mem_of_getElem? hp)
    show wpAny _ A.in1 (holding [Value.ref p.1] (setAdd S (.ref p.1)) >>= _) _ _ s'
    refine wpAny_bind (wpAny_holding ?_)
    unfold setAdd
    refine wpAny_holding (wpAny_bind (ap.hash hu ?_))
    have l75 := few L N.nd inks
    refine add_key (s := { s' with toks := s'.toks + p.2.draws }) N' (fun q hq => at_ q (inks q hq)) ap hu (by omega) fun b h' L' es' ep' t' same N2 c1 c2 => ?_
    have kp2 : ∀ c o, h0.get? c = some o → h'.get? c = some o := fun c o e => (same.2 c (fun z => by rw [z, hS0] at e; cases e)).trans (kp' c o e)
    refine wpAny_pure ⟨plainId_quiet F.plain_set_update_loop _, ih (i + 1) _ (by omega) lt (W.frame _ s' _ _ st' (Nat.le_add_right _ _) fun c hc o e => ?_) kp2 ⟨L', es', ep', t', N2, g.step hp c1 c2⟩ fun s2 L2 es2 ep2 t2 mv2 N3 g2 kp3 => ?_⟩
    · rw [same.2 c (fun z : c = S => hSf (by rw [← z]; exact hc))]; exact e
    · refine hR s2 L2 es2 ep2 t2 (Moved.trans W.gtrans ((mv.mono wide).then_heap (Nat.le_add_right _ _) fun c o hc e => ?_) mv2) N3 g2 kp3
      rw [same.2 c (fun z : c = S => hc (by rw [z]; exact List.mem_cons_self))]; exact e
set_option maxRecDepth 100000 in
set_option maxHeartbeats 3200000 in
theorem call_set_keysT {l : Addr} {its : Array Value} (ks : KL) {Q : Value → Shared → Prop} (hh : A.handled = none) (hl : s.heap.IsTuple l its) (hit : its.toList = ks.map fun p => Value.ref p.1) (hk : ∀ p ∈ ks, AtK s.heap p.1 p.2) (few : ∀ L : KL, (L.map (·.2)).Nodup → (∀ p ∈ L, p ∈ ks) → L.length ≤ 1190) (hu : A.units + 12 < cLine)
    (h : ∀ (h1 : Heap) (tk : Nat) L es ep t, NSet w h1 s.heap.objs.size L es ep t → GotK ks ks.length L → (∀ b o, s.heap.get? b = some o → h1.get? b = some o) → Q (.ref s.heap.objs.size) { s with heap := h1, toks := tk }) : wpAny (model P w) A (call (.type "set") [.ref l]) Q E s := by
  have hlen : its.size = ks.length := by
    have q := congrArg List.length hit
    rwa [Array.length_toList, List.length_map] at q
  obtain ⟨c, tl, hmro⟩ := F.called_set.mro
  have a1 := F.called_set.made
  have a2 := F.called_set.sub
  refine wpAny_call (codeAny_of_tree ?_)
  show wpAny _ _ (callAny (.type "set") _) _ _ _
  refine wpAny_pure ⟨Code.quiet_builtin _ (by decide +kernel), codeAny_builtin F.entry_type_call ?_⟩
  rw [Around.under_plain (weight_type_call_type "set" [.ref l] []) rfl]
  have a3 := F.called_set.notType
  have a4 := F.called_set.canCreate
  have a5 := F.typeCall_set_1 (.ref l)
  repeat (any_goals (first | assumption | wp_step))
  refine codeAny_mono (code_set_led1 (.ref l) (E := E) (Q₁ := fun v s1 => v = .ref s.heap.objs.size ∧ s1 = { s with heap := s.heap.push (nuSet w) }) ⟨rfl, rfl⟩) fun r s1 hr => ?_
  cases r with
  | error e => exact hr
  | ok fl =>
    cases fl with
    | ret obj =>
      obtain ⟨rfl, rfl⟩ := hr
      have b0 : (s.heap.push (nuSet w)).get? s.heap.objs.size = some (nuSet w) := Heap.get?_push_size _ rfl
      have b1 : Shared.TypeIs { s with heap := s.heap.push (nuSet w) } (.ref s.heap.objs.size) "set" := ⟨_, b0, rfl⟩
      have b2 := F.called_set.init.lookup
      have b3 := F.called_set.init.bind (.ref s.heap.objs.size)
      repeat (any_goals (first | assumption | wp_step))
      refine codeAny_mono (codeAny_call_builtin (R := wants (fun r s2 => r = .none ∧ ∃ h1 tk L es ep t, s2 = { s with heap := h1, toks := tk } ∧ NSet w h1 s.heap.objs.size L es ep t ∧ GotK ks ks.length L ∧ ∀ b o, s.heap.get? b = some o → h1.get? b = some o) E) F.called_set.init.plain F.entry_set_init (check_set_init_1 b1 ?_)) fun r2 s2 hr2 => ?_
      · obtain ⟨⟨k1, k2, k3, k4⟩, hol, hcl, nl, hdl⟩ := hl
        simp only at hcl hdl
        subst hcl
        subst hdl
        have g0 : (s.heap.push (nuSet w)).get? l = some { cls := .type "tuple", dict := k2, data := .seq its nl, slots := k4 } := Heap.get?_push_of_some _ hol
        have f1 := F.sub_tuple_set
        have f2 := F.sub_tuple_frozenset
        have f3 : (Value.type "tuple" == Value.type "dict") = false := by decide
        have g1 : (s.heap.push (nuSet w)).IsTuple l its := ⟨_, g0, rfl, nl, rfl⟩
        unfold nuSet at g0 g1 b0 b1 b3 ⊢
        unfold Builtin.«set.__init__» noKeywords Builtin.Frozenset.updateFrom
        generalize hPI : pyIter = PI
        wp_walk
        subst hPI
        refine wpAny_pyIter_tuple g1 ?_
        refine wpAny_bind (wpAny_runValue ?_)
        have g2 : l < s.heap.objs.size := Heap.lt_size hol
        have g3 : A.in1.in1.in1.handled = none := by simp [hh]
        have gz : ∀ o : Obj, (s.heap.push o).objs.size = s.heap.objs.size + 1 := fun o => Heap.size_push ..
        have nof : ∀ b, s.heap.objs.size ≤ b → s.heap.get? b = none := fun b hb => by
          cases q : s.heap.get? b with
          | none => rfl
          | some o => exact absurd (Heap.lt_size q) (Nat.not_lt.mpr hb)
        have hv : ∀ (i : Nat) (v : Value), its[i]? = some v → ∃ p, ks[i]? = some p ∧ v = .ref p.1 := fun i v e => by
          have q : its.toList[i]? = some v := by rw [Array.getElem?_toList]; exact e
          rw [hit, List.getElem?_map] at q
          cases z : ks[i]? with
          | none => rw [z] at q; cases q
          | some p => rw [z] at q; exact ⟨p, rfl, (Option.some.inj q).symm⟩
        refine set_update_keys ((Walks.tuple g3 _ l (by rw [gz]; exact Nat.ne_of_lt (Nat.lt_succ_of_lt g2)) its).toS) s.heap.objs.size (by rw [gz]; simp only [List.mem_cons, List.not_mem_nil, or_false, not_or]; exact ⟨Nat.ne_of_lt (Nat.lt_succ_self _), Nat.ne_of_gt g2⟩) ks hlen few hv s.heap hk (nof _ (Nat.le_refl _)) (fun b hb => nof b (by rw [List.mem_singleton.mp hb, gz]; exact Nat.le_succ _)) (by show A.units + 1 + 1 + 1 + 8 < cLine; omega) (its.size - 0) 0 _ (by omega) (Nat.zero_le _)
          ⟨⟨_, Heap.get?_push_size _ rfl, rfl, rfl⟩, (g1.push _)⟩ (fun b o e => Heap.get?_push_of_some _ (Heap.get?_push_of_some _ e)) ?c0 ?c1
        case c0 =>
          exact ⟨[], #[], 0, _, nset_fresh (Heap.get?_push_of_some _ b0), GotK.zero ks⟩
        case c1 =>
          intro s3 L es ep t hm r3 g kp
          obtain ⟨h1, x2, x3, tk, x5⟩ := s3
          obtain rfl : x2 = s.gens := hm.gens
          obtain rfl : x3 = s.drawn := hm.drawn
          obtain rfl : x5 = s.os := hm.os
          show wpAny _ _ _ _ _ _
          refine wpAny_pure ?_
          show wpAny _ _ (ret Value.none) _ _ _
          rw [hlen] at g
          exact wpAny_pure ⟨rfl, h1, tk, L, es, ep, t, rfl, r3, g, kp⟩
      · cases r2 with
        | error e => exact hr2
        | ok fl2 =>
          cases fl2 with
          | ret r => 
            obtain ⟨rfl, h1, tk, L, es, ep, t, rfl, r3, g, kp⟩ := hr2
            repeat (any_goals (first | assumption | wp_step))
            exact h _ _ _ _ _ _ r3 g kp
          | _ => exact hr2.elim
    | _ => exact hr.elim

set_option maxRecDepth 100000 in
set_option maxHeartbeats 3200000 in
theorem call_set_keysL {l : Addr} {its : Array Value} (ks : KL) {Q : Value → Shared → Prop} (hh : A.handled = none) (hl : s.heap.IsList l its) (hit : its.toList = ks.map fun p => Value.ref p.1) (hk : ∀ p ∈ ks, AtK s.heap p.1 p.2) (few : ∀ L : KL, (L.map (·.2)).Nodup → (∀ p ∈ L, p ∈ ks) → L.length ≤ 1190) (hu : A.units + 12 < cLine)
    (h : ∀ (h1 : Heap) (tk : Nat) L es ep t, NSet w h1 s.heap.objs.size L es ep t → GotK ks ks.length L → (∀ b o, s.heap.get? b = some o → h1.get? b = some o) → Q (.ref s.heap.objs.size) { s with heap := h1, toks := tk }) : wpAny (model P w) A (call (.type "set") [.ref l]) Q E s := by
  have hlen : its.size = ks.length := by
    have q := congrArg List.length hit
    rwa [Array.length_toList, List.length_map] at q
  obtain ⟨c, tl, hmro⟩ := F.called_set.mro
  have a1 := F.called_set.made
  have a2 := F.called_set.sub
  refine wpAny_call (codeAny_of_tree ?_)
  show wpAny _ _ (callAny (.type "set") _) _ _ _
  refine wpAny_pure ⟨Code.quiet_builtin _ (by decide +kernel), codeAny_builtin F.entry_type_call ?_⟩
  rw [Around.under_plain (weight_type_call_type "set" [.ref l] []) rfl]
  have a3 := F.called_set.notType
  have a4 := F.called_set.canCreate
  have a5 := F.typeCall_set_1 (.ref l)
  repeat (any_goals (first | assumption | wp_step))
  refine codeAny_mono (code_set_led1 (.ref l) (E := E) (Q₁ := fun v s1 => v = .ref s.heap.objs.size ∧ s1 = { s with heap := s.heap.push (nuSet w) }) ⟨rfl, rfl⟩) fun r s1 hr => ?_
  cases r with
  | error e => exact hr
  | ok fl =>
    cases fl with
    | ret obj =>
      obtain ⟨rfl, rfl⟩ := hr
      have b0 : (s.heap.push (nuSet w)).get? s.heap.objs.size = some (nuSet w) := Heap.get?_push_size _ rfl
      have b1 : Shared.TypeIs { s with heap := s.heap.push (nuSet w) } (.ref s.heap.objs.size) "set" := ⟨_, b0, rfl⟩
      have b2 := F.called_set.init.lookup
      have b3 := F.called_set.init.bind (.ref s.heap.objs.size)
      repeat (any_goals (first | assumption | wp_step))
      refine codeAny_mono (codeAny_call_builtin (R := wants (fun r s2 => r = .none ∧ ∃ h1 tk L es ep t, s2 = { s with heap := h1, toks := tk } ∧ NSet w h1 s.heap.objs.size L es ep t ∧ GotK ks ks.length L ∧ ∀ b o, s.heap.get? b = some o → h1.get? b = some o) E) F.called_set.init.plain F.entry_set_init (check_set_init_1 b1 ?_)) fun r2 s2 hr2 => ?_
      · obtain ⟨⟨k1, k2, k3, k4⟩, hol, hcl, nl, hdl⟩ := hl
        simp only at hcl hdl
        subst hcl
        subst hdl
        have g0 : (s.heap.push (nuSet w)).get? l = some { cls := .type "list", dict := k2, data := .seq its nl, slots := k4 } := Heap.get?_push_of_some _ hol
        have f1 := F.sub_list_set
        have f2 := F.sub_list_frozenset
        have f3 : (Value.type "list" == Value.type "dict") = false := by decide
        have g1 : (s.heap.push (nuSet w)).IsList l its := ⟨_, g0, rfl, nl, rfl⟩
        unfold nuSet at g0 g1 b0 b1 b3 ⊢
        unfold Builtin.«set.__init__» noKeywords Builtin.Frozenset.updateFrom
        generalize hPI : pyIter = PI
        wp_walk
        subst hPI
        refine wpAny_pyIter_list g1 ?_
        refine wpAny_bind (wpAny_runValue ?_)
        have g2 : l < s.heap.objs.size := Heap.lt_size hol
        have g3 : A.in1.in1.in1.handled = none := by simp [hh]
        have gz : ∀ o : Obj, (s.heap.push o).objs.size = s.heap.objs.size + 1 := fun o => Heap.size_push ..
        have nof : ∀ b, s.heap.objs.size ≤ b → s.heap.get? b = none := fun b hb => by
          cases q : s.heap.get? b with
          | none => rfl
          | some o => exact absurd (Heap.lt_size q) (Nat.not_lt.mpr hb)
        have hv : ∀ (i : Nat) (v : Value), its[i]? = some v → ∃ p, ks[i]? = some p ∧ v = .ref p.1 := fun i v e => by
          have q : its.toList[i]? = some v := by rw [Array.getElem?_toList]; exact e
          rw [hit, List.getElem?_map] at q
          cases z : ks[i]? with
          | none => rw [z] at q; cases q
          | some p => rw [z] at q; exact ⟨p, rfl, (Option.some.inj q).symm⟩
        refine set_update_keys ((Walks.list g3 _ l (by rw [gz]; exact Nat.ne_of_lt (Nat.lt_succ_of_lt g2)) its).toS) s.heap.objs.size (by rw [gz]; simp only [List.mem_cons, List.not_mem_nil, or_false, not_or]; exact ⟨Nat.ne_of_lt (Nat.lt_succ_self _), Nat.ne_of_gt g2⟩) ks hlen few hv s.heap hk (nof _ (Nat.le_refl _)) (fun b hb => nof b (by rw [List.mem_singleton.mp hb, gz]; exact Nat.le_succ _)) (by show A.units + 1 + 1 + 1 + 8 < cLine; omega) (its.size - 0) 0 _ (by omega) (Nat.zero_le _)
          ⟨⟨_, Heap.get?_push_size _ rfl, rfl, rfl⟩, (g1.push _)⟩ (fun b o e => Heap.get?_push_of_some _ (Heap.get?_push_of_some _ e)) ?c0 ?c1
        case c0 =>
          exact ⟨[], #[], 0, _, nset_fresh (Heap.get?_push_of_some _ b0), GotK.zero ks⟩
        case c1 =>
          intro s3 L es ep t hm r3 g kp
          obtain ⟨h1, x2, x3, tk, x5⟩ := s3
          obtain rfl : x2 = s.gens := hm.gens
          obtain rfl : x3 = s.drawn := hm.drawn
          obtain rfl : x5 = s.os := hm.os
          show wpAny _ _ _ _ _ _
          refine wpAny_pure ?_
          show wpAny _ _ (ret Value.none) _ _ _
          rw [hlen] at g
          exact wpAny_pure ⟨rfl, h1, tk, L, es, ep, t, rfl, r3, g, kp⟩
      · cases r2 with
        | error e => exact hr2
        | ok fl2 =>
          cases fl2 with
          | ret r => 
            obtain ⟨rfl, h1, tk, L, es, ep, t, rfl, r3, g, kp⟩ := hr2
            repeat (any_goals (first | assumption | wp_step))
            exact h _ _ _ _ _ _ r3 g kp
          | _ => exact hr2.elim
    | _ => exact hr.elim

end
end DL
/-! ### sorted(set(xs)), the items nested tuples of numbers -/
namespace DL
open PySem PySem.Spec PyProof.Rows L2 PySem.W
def dedK : List NestedKey → List NestedKey
  | [] => []
  | k :: r => if k ∈ dedK r then dedK r else k :: dedK r
theorem dedK_mem (x : NestedKey) : ∀ ks : List NestedKey, x ∈ dedK ks ↔ x ∈ ks
  | [] => Iff.rfl
  | k :: r => by
    have ih := dedK_mem x r
    unfold dedK
    by_cases h : k ∈ dedK r
    · rw [if_pos h, ih, List.mem_cons]
      exact ⟨.inr, fun z => z.elim (fun e => by rw [e]; exact (dedK_mem k r).mp h) id⟩
    · rw [if_neg h, List.mem_cons, List.mem_cons, ih]
theorem dedK_nodup : ∀ ks : List NestedKey, (dedK ks).Nodup
  | [] => .nil
  | k :: r => by
    unfold dedK
    split
    · exact dedK_nodup r
    · rename_i h
      exact List.nodup_cons.mpr ⟨h, dedK_nodup r⟩
theorem nodup_le : ∀ {a b : List NestedKey}, a.Nodup → (∀ x ∈ a, x ∈ b) → a.length ≤ b.length
  | [], _, _, _ => Nat.zero_le _
  | x :: a, b, h, hs => by
    obtain ⟨h1, h2⟩ := List.nodup_cons.mp h
    have hx := hs x (List.mem_cons_self ..)
    have ih := nodup_le (b := b.erase x) h2 fun y hy => (List.mem_erase_of_ne fun (e : y = x) => h1 (by rw [← e]; exact hy)).mpr (hs y (List.mem_cons_of_mem _ hy))
    rw [List.length_erase_of_mem hx] at ih
    have := List.length_pos_of_mem hx
    rw [List.length_cons]
    omega
def gSortK (ds : List PyData) : Option PyData := match nkOfs ds with
  | some ks => if ds.all tupB = true ∧ ks.all (fun k => decide (k.depth ≤ 8)) = true ∧ (dedK ks).length ≤ 1190 ∧ tupsOk ((dedK ks).map NestedKey.data) = true then some (.list (sortK (dedK ks))) else none
  | none => none
def gSortSetN : PyData → Option PyData
  | .list ds => gSortK ds
  | .tuple ds => gSortK ds
  | _ => none
theorem nkeys_v {M : Addr → Prop} {H : Hp} : ∀ {ds : List PyData} {xs : List V} {ks : List NestedKey}, DvA M H xs ds → nkOfs ds = some ks → ds.all tupB = true → ks.all (fun k => decide (k.depth ≤ 8)) = true → ∃ L : KL, xs = L.map (fun p => V.ref p.1) ∧ L.map (·.2) = ks ∧ ∀ p ∈ L, KeyV M H p.1 p.2
  | [], _, ks, dv, h, _, _ => by
    cases dv
    unfold nkOfs at h
    cases h
    exact ⟨[], rfl, rfl, fun p hp => nomatch hp⟩
  | d :: ds, _, ks, dv, h, ht, hd => by
    cases dv with
    | cons d1 d2 =>
      unfold nkOfs at h
      split at h
      · rename_i k hk
        split at h
        · rename_i kr hr
          cases h
          rw [List.all_cons, Bool.and_eq_true] at ht hd
          obtain ⟨L, rfl, rfl, hL⟩ := nkeys_v d2 hr ht.2 hd.2
          have h8 : k.depth ≤ 8 := of_decide_eq_true hd.1
          have tb := ht.1
          cases d1 with
          | atm q => cases q <;> cases tb
          | @lst a xs es n r l q =>
            refine ⟨(a, k) :: L, rfl, rfl, fun p hp => ?_⟩
            rcases List.mem_cons.mp hp with rfl | hp
            · exact ⟨_, hk, h8, .lst n r l q⟩
            · exact hL p hp
          | @tup a xs es n r l q =>
            refine ⟨(a, k) :: L, rfl, rfl, fun p hp => ?_⟩
            rcases List.mem_cons.mp hp with rfl | hp
            · exact ⟨_, hk, h8, .tup n r l q⟩
            · exact hL p hp
          | dct => cases tb
          | dcm => cases tb
        · cases h
      · cases h
section
variable {X : Cx}
def rSetK (K : PySem.W.Frag) (w : World) : List V → Hp → VK → Prop := fun xs H Q => ∃ (l : Addr) (ks : KL), xs = [V.ref l] ∧ (SqT K H l (ks.map fun p => V.ref p.1) ∨ SqL K H l (ks.map fun p => V.ref p.1)) ∧ (∃ M, ∀ p ∈ ks, KeyV M H p.1 p.2) ∧ (∀ L : KL, (L.map (·.2)).Nodup → (∀ p ∈ L, p ∈ ks) → L.length ≤ 1190) ∧
  ∀ a L, H a = none → (L.map (·.2)).Nodup → (∀ p ∈ L, p ∈ ks) → (∀ p ∈ ks, p.2 ∈ L.map (·.2)) → Q (.ref a) (upd H a (NSetO w a L))
theorem refs_back : ∀ {ks : KL} {us : List Value}, Vals (ks.map fun p => V.ref p.1) us → us = ks.map fun p => Value.ref p.1
  | [], _, .nil => rfl
  | p :: ks, _, .cons r t => by
    cases r
    rw [refs_back t]
    rfl
theorem cr_setK (hc : X.calm = true) (hu : X.A.units + 64 < cLine) : CallR X (.type "set") (rSetK X.K X.w) := by
  intro pins s σ H xs us Q I r h
  obtain ⟨l, ks, rfl, ht, ⟨M, hk⟩, few, q⟩ := h
  rw [Vals.ref1 r]
  have fresh : H s.heap.objs.size = none := I.hok.fresh (Nat.le_refl _)
  have fin : ∀ (h1 : Heap) (tk : Nat) L es ep t, NSet X.w h1 s.heap.objs.size L es ep t → GotK ks ks.length L → (∀ b o, s.heap.get? b = some o → h1.get? b = some o) → EP X pins σ Q (.ref s.heap.objs.size) { s with heap := h1, toks := tk } := fun h1 tk L es ep t R g kp => by
    refine ⟨.ref s.heap.objs.size, upd H s.heap.objs.size (NSetO X.w s.heap.objs.size L), I.laid (t' := tk) kp (Nat.le_refl _) (nsetO_new R), rfl, q _ L fresh R.nd (fun p hp => List.mem_of_mem_take (g.sub p hp)) fun p hp => g.all p ?_⟩
    rwa [List.take_length]
  rcases ht with ht | ht
  · obtain ⟨its, rv, pt, _⟩ := I.tuple ht
    exact call_set_keysT (P := X.prog) (w := X.w) ks (I.ok.hd hc) pt (by simpa using refs_back rv) (fun p hp => (hk p hp).at_ I) few (by omega) fin
  · obtain ⟨its, rv, pl, _⟩ := I.list ht
    exact call_set_keysL (P := X.prog) (w := X.w) ks (I.ok.hd hc) pl.isList (by simpa using refs_back rv) (fun p hp => (hk p hp).at_ I) few (by omega) fin
end
theorem sortK_core {K : PySem.W.Frag} {w : World} {M : Addr → Prop} {H : Hp} {l : Addr} {xs : List V} {ds : List PyData} {z : PyData} {Q : VK} (hm : ∀ b, M b → Mut (H b)) (sq : SqT K H l xs ∨ SqL K H l xs) (dv : DvA M H xs ds) (hg : gSortK ds = some z)
    (k : ∀ (v2 : V) (H2 : Hp), Same H H2 → Dv M H2 v2 z → Q v2 H2) : rSetK K w [V.ref l] H fun v2 H2 => rSortN w [v2] H2 Q := by
  unfold gSortK at hg
  split at hg
  · rename_i ks hk
    split at hg
    · rename_i hc
      cases hg
      obtain ⟨c1, c2, c3, c4⟩ := hc
      obtain ⟨L0, rfl, rfl, hL⟩ := nkeys_v dv hk c1 c2
      refine ⟨l, L0, rfl, sq, ⟨M, hL⟩, fun L nd hs => ?_, fun a L ha nd hs hall => ?_⟩
      · have := nodup_le nd (b := dedK (L0.map (·.2))) fun x hx => by
          obtain ⟨p, hp, rfl⟩ := List.mem_map.mp hx
          exact (dedK_mem _ _).mpr (List.mem_map_of_mem (hs p hp))
        rw [List.length_map] at this
        omega
      · have pm : (L.map (·.2)).Perm (dedK (L0.map (·.2))) := (List.perm_ext_iff_of_nodup nd (dedK_nodup _)).mpr fun x => by
          rw [dedK_mem]
          constructor
          · intro hx
            obtain ⟨p, hp, rfl⟩ := List.mem_map.mp hx
            exact List.mem_map_of_mem (hs p hp)
          · intro hx
            obtain ⟨p, hp, rfl⟩ := List.mem_map.mp hx
            exact hall p hp
        have len := pm.length_eq
        rw [List.length_map] at len
        have pmd : (L.map fun p => p.2.data).Perm ((dedK (L0.map (·.2))).map NestedKey.data) := by
          have := pm.map NestedKey.data
          rwa [List.map_map] at this
        have sm1 : Same H (upd H a (NSetO w a L)) := same_upd ha
        have up : ∀ p ∈ L, KeyV M (upd H a (NSetO w a L)) p.1 p.2 := fun p hp => (hL p (hs p hp)).up (fun b o e _ => sm1 b o e) fun b m => .inl m
        refine ⟨a, L, rfl, upd_same, ⟨M, up⟩, by omega, tupsOk_perm pmd c4, fun L' ys p pL hp hy => ?_⟩
        have e1 : sortD (L'.map fun q => q.2.data) = sortK (dedK (L0.map (·.2))) := by
          have := sortK_perm ((pL.map fun z : Addr × NestedKey => z.2).trans pm) c4 fun k hk2 => by
            obtain ⟨q, hq, rfl⟩ := List.mem_map.mp ((dedK_mem _ _).mp hk2)
            obtain ⟨d, hd, _⟩ := hL q hq
            exact (nk_data d _ hd).2
          unfold sortK at this
          rw [List.map_map] at this
          exact this
        have dv2 := hy M up
        rw [e1] at dv2
        have hH : H p = none := by
          by_cases hb : p = a
          · rw [hb]; exact ha
          · rw [upd_ne hb] at hp; exact hp
        have sm2 : Same (upd H a (NSetO w a L)) (upd (upd H a (NSetO w a L)) p (.lst ys)) := same_upd hp
        refine k _ _ (fun b o e => sm2 b o (sm1 b o e)) (.lst (fresh_mut hm hH) (.inl upd_same) ?_ (dv2.same sm2))
        unfold sortK sortD
        rw [List.length_mergeSort, List.length_map]
        show (dedK _).length ≤ 1000000
        omega
    · cases hg
  · cases hg
theorem p_sortSetN {K : PySem.W.Frag} {w : World} : Pure1 (fun v H Q => rSetK K w [v] H fun v2 H2 => rSortN w [v2] H2 Q) gSortSetN := fun M H x d z Q hm hx hg k => by
  match d, hx, hg with
  | .list ds, hx, hg =>
    obtain ⟨t, xs, rfl, rd, q, l⟩ := hx.lst
    exact sortK_core hm (.inr (.inl rd)) q hg k
  | .tuple ds, hx, hg =>
    obtain ⟨t, xs, rfl, _, rd, q, _⟩ := hx.tup
    exact sortK_core hm (.inl (.inl rd)) q hg k
section
variable {X : Cx} {x : Expr} {pos : Pos} {f : X1}
def gSortSetD (d : PyData) : Option PyData := match gSortSetB d with
  | some z => some z
  | none => gSortSetN d
theorem d_sortSetD {p q pos2 : Pos} (hu : X.A.units + 64 < cLine) (hv : X.A.units + 100 < cLine) (hc : X.calm = true) (hg : Gl X "sorted") (hm : X.mg "sorted" = none) (hg2 : Gl X "set") (hm2 : X.mg "set" = none) (a : PE X x (tD f))
    (na : starEach [.Call (.Name "set" q) [x] [] pos2] X.env = (false, eval (.Call (.Name "set" q) [x] [] pos2) X.env) :: starEach [] X.env := by rfl) (nb : starEach [x] X.env = (false, eval x X.env) :: starEach [] X.env := by rfl)
    (ha : (backTo pos (starEach [] X.env)).any (·.1) = false := by rfl) (hb : (backTo pos2 (starEach [] X.env)).any (·.1) = false := by rfl) :
    PE X (.Call (.Name "sorted" p) [.Call (.Name "set" q) [x] [] pos2] [] pos) (tD (x1 gSortSetD f)) :=
  ⟨fun pins s σ H Q I h => by
    obtain ⟨P, α, e, w, r, w', R, hf, k⟩ := h
    rcases x1_or (g1 := gSortSetB) hf with z | z
    · exact (d_sortSetB hu hc hg hm hg2 hm2 a na nb ha hb).run pins s σ H Q I ⟨P, α, e, w, r, w', R, z, k⟩
    · exact ((pe_callB (cr_sortN hc hv) hg hm boot_sorted_ (pa_cons (pe_callTy (cr_setK hc hu) hg2 hm2 boot_set_ (pa_cons a pa_nil nb) (by decide) (by decide) nb hb) pa_nil na) (by decide) (by decide) na ha).imp fun σ H Q q => step1 p_sortSetN q).run pins s σ H Q I ⟨P, α, e, w, r, w', R, z, k⟩⟩
end
end DL
/-! ### a, b = x, [..] where a or b stands in a cell -/
namespace DL
open PySem PySem.Spec PyProof.Rows L2
section
variable {X : Cx} {x y : Expr} {f h : X1} {pos : Pos}
theorem ds_parCO {i j : Nat} {tg : Expr} {k2 pt2} (a : PE X x (tD f)) (b : PE X y (tF h)) (hij : i ≠ j) (hg : PG X tg (gTup X.K 2 (gCons (gName i) (gCons (gName j) gNil))))
    (na : starEach [x, y] X.env = (false, eval x X.env) :: starEach [y] X.env := by rfl) (nb : starEach [y] X.env = (false, eval y X.env) :: starEach [] X.env := by rfl)
    (hs : swapsWithSole [tg] (.Tuple [x, y] k2 pt2) pos.line X.env = pure false := by rfl) (hw : swappedStores [tg] (.Tuple [x, y] k2 pt2) X.env = pure none := by rfl)
    (h1 : (assignEach [tg] X.env).map (·.2) = [assign tg X.env] := by rfl) : PS X (.Assign [tg] (.Tuple [x, y] k2 pt2) pos) (tS (sParO i j f h)) := (ps_asg (pe_tup (pa_cons a (pa_cons b pa_nil nb) na)) hg hs hw h1).imp fun D σ H q => by
  obtain ⟨P, α, e, w, o, R, hf, k⟩ := q
  unfold sParO at hf
  split at hf
  · rename_i d w1 h1
    split at hf
    · rename_i ds w2 h2
      cases hf
      refine ⟨P, α, e, w, .v d, w1, R, h1, fun v H1 α1 u1 R1 i1 => ⟨P, α1, e, w1, ds, w2, R1, h2, fun p xs H2 α2 u2 hp R2 hx dv hl => ?_⟩⟩
      refine ⟨by show 2 ≤ sizeLine; decide, fun p2 hp2 => ⟨p2, [v, .ref p], rfl, SqT.of upd_same, rfl, v, [.ref p], rfl, .ref p, [], rfl, rfl, ?_⟩⟩
      have sm : Same H2 (upd H2 p2 (.tup [v, .ref p])) := same_upd hp2
      have hp0 : H p = none := u1.ex p hp
      have iv : Dv (Msk (fun b => P b ∨ b = p) α2 e σ) H2 v d := Dv.up (show Dv (Msk P α1 e σ) H1 v d from i1) (fun b o q n => u2.kp b o q fun hb => n (.inr (.inl hb))) fun b m => by
        rcases m with (m | m) | m | m
        · exact .inl (.inl m)
        · exact .inr (by rw [m]; exact hp)
        · by_cases hb : b ∈ α1
          · exact .inl (.inr (.inl hb))
          · exact .inr (u2.fre b m hb)
        · exact .inl (.inr (.inr m))
      have iv3 := iv.same sm
      have R3 := (R2.same sm).put (i := i) (x := .v d) (v := v) (nv d) iv3
      have dv3 : DvA (Msk (fun b => P b ∨ b = p) α2 (e.set i (some (.v d))) (σ.set i (some v))) (upd H2 p2 (.tup [v, .ref p])) xs ds := (dv.same sm).less fun c m => Msk.le (fun c => own_put (nv d)) m
      have u3 := (u1.trans u2).trans (.of_same sm)
      refine k _ (upd H2 p2 (.tup [v, .ref p])) α2 ⟨u3.pre, u3.fre, fun b o h n _ => u3.kp b o h n, u3.ex, fun b ⟨l, es, q1, q2⟩ => ?_⟩ (R3.own (sm _ _ hx) dv3 hl fun z => not_P R hp0 (.inl z))
      rcases set_get q1 with ⟨hj, _⟩ | ⟨hn, q3⟩
      · subst hj
        rcases set_get q2 with ⟨_, q⟩ | ⟨hn, _⟩
        · cases q; exact .inr hp0
        · exact absurd rfl hn
      · rw [List.getElem?_set_ne hn] at q2
        rcases set_get q3 with ⟨_, q4⟩ | ⟨hm, q4⟩
        · exact absurd q4 (nv d es)
        · rw [List.getElem?_set_ne hm] at q2
          exact .inl ⟨l, es, q4, q2⟩
    · cases hf
  · cases hf
end
section
variable {X : Cx} {x : Expr} {pos : Pos} {f : X1}
theorem d_sortSetN {p q pos2 : Pos} (hu : X.A.units + 64 < cLine) (hv : X.A.units + 100 < cLine) (hc : X.calm = true) (hg : Gl X "sorted") (hm : X.mg "sorted" = none) (hg2 : Gl X "set") (hm2 : X.mg "set" = none) (a : PE X x (tD f))
    (na : starEach [.Call (.Name "set" q) [x] [] pos2] X.env = (false, eval (.Call (.Name "set" q) [x] [] pos2) X.env) :: starEach [] X.env := by rfl) (nb : starEach [x] X.env = (false, eval x X.env) :: starEach [] X.env := by rfl)
    (ha : (backTo pos (starEach [] X.env)).any (·.1) = false := by rfl) (hb : (backTo pos2 (starEach [] X.env)).any (·.1) = false := by rfl) :
    PE X (.Call (.Name "sorted" p) [.Call (.Name "set" q) [x] [] pos2] [] pos) (tD (x1 gSortSetN f)) :=
  (pe_callB (cr_sortN hc hv) hg hm boot_sorted_ (pa_cons (pe_callTy (cr_setK hc hu) hg2 hm2 boot_set_ (pa_cons a pa_nil nb) (by decide) (by decide) nb hb) pa_nil na) (by decide) (by decide) na ha).imp fun σ H Q q => step1 p_sortSetN q
end
end DL
namespace Pf
open PySem L2 DL
def top (i : Nat) : Stmt := PySem.Challenge.pw_holdmodes_k17_whole_fewest_modes.main.body.getD i (.Pass ⟨0, 0, 0, 0⟩)
structure Txt (mg : Str → Option Value) : Prop where
  abs : mg "abs" = none
  all : mg "all" = none
  any : mg "any" = none
  bool : mg "bool" = none
  int : mg "int" = none
  isinstance : mg "isinstance" = none
  len : mg "len" = none
  list : mg "list" = none
  max : mg "max" = none
  min : mg "min" = none
  range : mg "range" = none
  set : mg "set" = none
  sorted : mg "sorted" = none
  tuple : mg "tuple" = none
section
variable {P : Program} {w : World} {K : PySem.W.Frag} {mg : Str → Option Value} {base : Heap}
/-! is_number -/
def B_is_number : S1 := (sRet (xAnd (x1 (gIsi "int") (xVar 0)) (xAnd (xNot (x1 (gIsi "bool") (xVar 0))) (xChain gLe gLe (xVar 1) (xVar 0) (xVar 2)))))
def F_is_number : List PyData → Option PyData := fnP 3 B_is_number
abbrev st_is_number : Stmt := top 1
theorem sc_is_number : FnScope ["value", "least", "most"] ["value", "least", "most"] (defScope st_is_number) := ⟨rfl, rfl, rfl, by decide +kernel, rfl, by decide +kernel, by decide +kernel⟩
theorem ok_is_number {f : Addr} {fd : FuncData} (F : Fun K "is_number" "is_number" st_is_number f fd) (T : Txt mg)  : FnOk P w K mg base CX0 1 f fd ["value", "least", "most"] (spP 3 (F_is_number)) :=
  fn_P F sc_is_number fun cdv A out s H E hr =>
    (ds_one (ds_ret (d_and (d_isi (by rfl) T.isinstance (by rfl) T.int boot_int_ (d_var (pv 0))) (d_and (d_not (d_isi (by rfl) T.isinstance (by rfl) T.bool boot_bool_ (d_var (pv 0)))) (d_one (d_chain op_le op_le p_le p_le (d_var (pv 1)) (d_var (pv 0)) (d_var (pv 2)) rfl))))))
/-! is_pair -/
def B_is_pair : S1 := (sRet (xAnd (x1 (gIsi "tuple") (xVar 0)) (x2 gEqS (xN gLen (aCons (xVar 0) aNil)) (xC (.int 2)))))
def F_is_pair : List PyData → Option PyData := fnP 1 B_is_pair
abbrev st_is_pair : Stmt := top 2
theorem sc_is_pair : FnScope ["value"] ["value"] (defScope st_is_pair) := ⟨rfl, rfl, rfl, by decide +kernel, rfl, by decide +kernel, by decide +kernel⟩
theorem ok_is_pair {f : Addr} {fd : FuncData} (F : Fun K "is_pair" "is_pair" st_is_pair f fd) (T : Txt mg)  : FnOk P w K mg base CX0 1 f fd ["value"] (spP 1 (F_is_pair)) :=
  fn_P F sc_is_pair fun cdv A out s H E hr =>
    (ds_one (ds_ret (d_and (d_isi (by rfl) T.isinstance (by rfl) T.tuple boot_tuple_ (d_var (pv 0))) (d_one (d_cmp (op_eqA hr.u64) p_eqA (d_callB call_len_seq p_len (by rfl) T.len boot_len_ (da_cons (d_var (pv 0)) da_nil)) d_int (nomark _))))))
/-! ascends -/
def B_ascends : S1 := (sRet (xN gAll (aCons (xLc [1] (iRange1 (x2 gSub (xN gLen (aCons (xVar 0) aNil)) (xC (.int 1)))) (gN 1) tTrue (x2 gLtA (x2 gIx (xVar 0) (xVar 1)) (x2 gIx (xVar 0) (x2 gAdd (xVar 1) (xC (.int 1)))))) aNil)))
def F_ascends : List PyData → Option PyData := fnP 2 B_ascends
abbrev st_ascends : Stmt := top 3
theorem sc_ascends : FnScope ["row", "k"] ["row"] (defScope st_ascends) := ⟨rfl, rfl, rfl, by decide +kernel, rfl, by decide +kernel, by decide +kernel⟩
theorem ok_ascends {f : Addr} {fd : FuncData} (F : Fun K "ascends" "ascends" st_ascends f fd) (T : Txt mg)  : FnOk P w K mg base CX0 1 f fd ["row"] (spP 1 (F_ascends)) :=
  fn_P F sc_ascends fun cdv A out s H E hr =>
    (ds_one (ds_ret (d_callB (cr_all rfl) p_all (by rfl) T.all boot_all_ (da_cons (d_new (f_lc (own := [("k", 1)]) rfl sc_ascends.nd (pi_range1 (by rfl) T.range (da_cons (d_op op_sub p_sub (d_callB call_len_seq p_len (by rfl) T.len boot_len_ (da_cons (d_var (pv 0)) da_nil)) d_int) da_nil)) so_range1.ow (blkOk_by (by kernel_rfl)) (fun _ _ _ _ _ => (pg_name (i := 1) sc_ascends.nd rfl (by first | exact Or.inl rfl | exact Or.inr rfl))) gd_name (by decide) (fun _ _ _ _ _ => dts_nil) (fun _ _ _ _ _ => (d_cmp (op_ltA hr.u64) p_ltA (d_ix ix_A p_ix (d_var (pv 0)) (d_var (pv 1)) (fun _ _ => rfl)) (d_ix ix_A p_ix (d_var (pv 0)) (d_op op_addA p_add (d_var (pv 1)) d_int) (fun _ _ => rfl)) (nomark _)))) isl_lc) da_nil))))
/-! is_lot -/
def B_is_lot : S1 := (sSeq (sIf (tNotB (tBool (x1 (gIsi "tuple") (xVar 1)))) (sRet (xC (.bool false))) sNx)
    (sRet (xAnd (xN gAll (aCons (xLc [2] (iSeq (xVar 1)) (gN 2) tTrue (xCallP (F_is_number) (aCons (xVar 2) (aCons (xC (.int 0)) (aCons (x2 gSub (xVar 0) (xC (.int 1))) aNil))))) aNil)) (xCallP (F_ascends) (aCons (xVar 1) aNil)))))
def F_is_lot : List PyData → Option PyData := fnP 3 B_is_lot
abbrev st_is_lot : Stmt := top 5
theorem sc_is_lot : FnScope ["acts", "value", "act"] ["acts", "value"] (defScope st_is_lot) := ⟨rfl, rfl, rfl, by decide +kernel, rfl, by decide +kernel, by decide +kernel⟩
theorem ok_is_lot {f : Addr} {fd : FuncData} (F : Fun K "is_lot" "is_lot" st_is_lot f fd) (T : Txt mg) (G_is_number : Kn P w K mg base 1 "is_number" ["value", "least", "most"] (spP 3 (F_is_number))) (G_ascends : Kn P w K mg base 1 "ascends" ["row"] (spP 1 (F_ascends))) : FnOk P w K mg base CX0 2 f fd ["acts", "value"] (spP 2 (F_is_lot)) :=
  fn_P F sc_is_lot fun cdv A out s H E hr =>
    (ds_cons (ds_if (dt_not (dt_val (d_isi (by rfl) T.isinstance (by rfl) T.tuple boot_tuple_ (d_var (pv 1))))) (ds_one (ds_ret d_bl)) ds_nil)
      (ds_one (ds_ret (d_and (d_callB (cr_all rfl) p_all (by rfl) T.all boot_all_ (da_cons (d_new (f_lc (own := [("act", 2)]) rfl sc_is_lot.nd (pi_seq (d_var (pv 1))) so_seq.ow (blkOk_by (by kernel_rfl)) (fun _ _ _ _ _ => (pg_name (i := 2) sc_is_lot.nd rfl (by first | exact Or.inl rfl | exact Or.inr rfl))) gd_name (by decide) (fun _ _ _ _ _ => dts_nil) (fun _ _ _ _ _ => (d_callP (G_is_number.rn) (hr.mono (by decide)) (by rfl) G_is_number.mg G_is_number.kp G_is_number.bd (da_cons (d_var (pv 2)) (da_cons d_int (da_cons (d_op op_sub p_sub (d_var (pv 0)) d_int) da_nil))) (aLen_cons (aLen_cons (aLen_cons aLen_nil)))))) isl_lc) da_nil)) (d_one (d_callP (G_ascends.rn) (hr.mono (by decide)) (by rfl) G_ascends.mg G_ascends.kp G_ascends.bd (da_cons (d_var (pv 1)) da_nil) (aLen_cons aLen_nil)))))))
/-! has_all -/
def B_has_all : S1 := (sRet (xN gAll (aCons (xLc [2] (iSeq (xVar 1)) (gN 2) tTrue (x2 (gIn false) (xVar 2) (xVar 0))) aNil)))
def F_has_all : List PyData → Option PyData := fnP 3 B_has_all
abbrev st_has_all : Stmt := top 6
theorem sc_has_all : FnScope ["lot", "other", "act"] ["lot", "other"] (defScope st_has_all) := ⟨rfl, rfl, rfl, by decide +kernel, rfl, by decide +kernel, by decide +kernel⟩
theorem ok_has_all {f : Addr} {fd : FuncData} (F : Fun K "has_all" "has_all" st_has_all f fd) (T : Txt mg)  : FnOk P w K mg base CX0 1 f fd ["lot", "other"] (spP 2 (F_has_all)) :=
  fn_P F sc_has_all fun cdv A out s H E hr =>
    (ds_one (ds_ret (d_callB (cr_all rfl) p_all (by rfl) T.all boot_all_ (da_cons (d_new (f_lc (own := [("act", 2)]) rfl sc_has_all.nd (pi_seq (d_var (pv 1))) so_seq.ow (blkOk_by (by kernel_rfl)) (fun _ _ _ _ _ => (pg_name (i := 2) sc_has_all.nd rfl (by first | exact Or.inl rfl | exact Or.inr rfl))) gd_name (by decide) (fun _ _ _ _ _ => dts_nil) (fun _ _ _ _ _ => (d_cmp (op_inV hr.u66) p_in (d_var (pv 2)) (d_var (pv 0)) (by rfl)))) isl_lc) da_nil))))
/-! is_against -/
def B_is_against : S1 := (sSeq (sSet 3 (x2 gIx (xVar 0) (xC (.int 1))))
    (sRet (xN gAny (aCons (xLc [4] (iSeq (xVar 2)) (gN 4) tTrue (x2 (gIn true) (xTup (aCons (xN gMin2 (aCons (xVar 1) (aCons (xVar 4) aNil))) (aCons (xN gMax2 (aCons (xVar 1) (aCons (xVar 4) aNil))) aNil))) (xVar 3))) aNil))))
def F_is_against : List PyData → Option PyData := fnP 5 B_is_against
abbrev st_is_against : Stmt := top 8
theorem sc_is_against : FnScope ["rules", "act", "lot", "beside", "other"] ["rules", "act", "lot"] (defScope st_is_against) := ⟨rfl, rfl, rfl, by decide +kernel, rfl, by decide +kernel, by decide +kernel⟩
theorem ok_is_against {f : Addr} {fd : FuncData} (F : Fun K "is_against" "is_against" st_is_against f fd) (T : Txt mg)  : FnOk P w K mg base CX0 1 f fd ["rules", "act", "lot"] (spP 3 (F_is_against)) :=
  fn_P F sc_is_against fun cdv A out s H E hr =>
    (ds_cons (ds_set (i := 3) sc_is_against.nd rfl (by first | exact Or.inl rfl | exact Or.inr rfl) (d_ix ix_A p_ix (d_var (pv 0)) d_int (fun _ _ => rfl)))
      (ds_one (ds_ret (d_callB (cr_any rfl) p_any (by rfl) T.any boot_any_ (da_cons (d_new (f_lc (own := [("other", 4)]) rfl sc_is_against.nd (pi_seq (d_var (pv 2))) so_seq.ow (blkOk_by (by kernel_rfl)) (fun _ _ _ _ _ => (pg_name (i := 4) sc_is_against.nd rfl (by first | exact Or.inl rfl | exact Or.inr rfl))) gd_name (by decide) (fun _ _ _ _ _ => dts_nil) (fun _ _ _ _ _ => (d_cmp (op_notInV hr.u66) p_in (d_tup (da_cons (d_callB (call_min2 rfl) p_min2 (by rfl) T.min boot_min_ (da_cons (d_var (pv 1)) (da_cons (d_var (pv 4)) da_nil))) (da_cons (d_callB (call_max2 rfl) p_max2 (by rfl) T.max boot_max_ (da_cons (d_var (pv 1)) (da_cons (d_var (pv 4)) da_nil))) da_nil)) (aLen_cons (aLen_cons aLen_nil))) (d_var (pv 3)) (by rfl)))) isl_lc) da_nil)))))
/-! against -/
def B_against : S1 := (sRet (xN gTuple (aCons (xLc [2] (iRange1 (x2 gIx (xVar 0) (xC (.int 0)))) (gN 2) (tBool (xCallP (F_is_against) (aCons (xVar 0) (aCons (xVar 2) (aCons (xVar 1) aNil))))) (xVar 2)) aNil)))
def F_against : List PyData → Option PyData := fnP 3 B_against
abbrev st_against : Stmt := top 7
theorem sc_against : FnScope ["rules", "lot", "act"] ["rules", "lot"] (defScope st_against) := ⟨rfl, rfl, rfl, by decide +kernel, rfl, by decide +kernel, by decide +kernel⟩
theorem ok_against {f : Addr} {fd : FuncData} (F : Fun K "against" "against" st_against f fd) (T : Txt mg) (G_is_against : Kn P w K mg base 1 "is_against" ["rules", "act", "lot"] (spP 3 (F_is_against))) : FnOk P w K mg base CX0 2 f fd ["rules", "lot"] (spP 2 (F_against)) :=
  fn_P F sc_against fun cdv A out s H E hr =>
    (ds_one (ds_ret (d_callTy call_tuple_of p_tuple (by rfl) T.tuple boot_tuple_ (da_cons (d_new (f_lc (own := [("act", 2)]) rfl sc_against.nd (pi_range1 (by rfl) T.range (da_cons (d_ix ix_A p_ix (d_var (pv 0)) d_int (fun _ _ => rfl)) da_nil)) so_range1.ow (blkOk_by (by kernel_rfl)) (fun _ _ _ _ _ => (pg_name (i := 2) sc_against.nd rfl (by first | exact Or.inl rfl | exact Or.inr rfl))) gd_name (by decide) (fun _ _ _ _ _ => (dts_one (dt_val (d_callP (G_is_against.rn) (hr.mono (by decide)) (by rfl) G_is_against.mg G_is_against.kp G_is_against.bd (da_cons (d_var (pv 0)) (da_cons (d_var (pv 2)) (da_cons (d_var (pv 1)) da_nil))) (aLen_cons (aLen_cons (aLen_cons aLen_nil))))))) (fun _ _ _ _ _ => (d_var (pv 2)))) isl_lc) da_nil))))
/-! is_mode -/
def B_is_mode : S1 := (sSeq (sIf (tNotB (tBool (xCallP (F_is_pair) (aCons (xVar 1) aNil)))) (sRet (xC (.bool false))) sNx)
    (sSeq (sPat (gT (gC (gN 2) (gC (gN 3) gE))) (xVar 1))
    (sSeq (sSet 4 (x2 gIx (xVar 0) (xC (.int 0))))
    (sRet (xAnd (xCallP (F_is_lot) (aCons (xVar 4) (aCons (xVar 2) aNil))) (xAnd (xCallP (F_is_lot) (aCons (xVar 4) (aCons (xVar 3) aNil))) (xCallP (F_has_all) (aCons (xVar 3) (aCons (xVar 2) aNil)))))))))
def F_is_mode : List PyData → Option PyData := fnP 5 B_is_mode
abbrev st_is_mode : Stmt := top 10
theorem sc_is_mode : FnScope ["rules", "value", "own", "means", "acts"] ["rules", "value"] (defScope st_is_mode) := ⟨rfl, rfl, rfl, by decide +kernel, rfl, by decide +kernel, by decide +kernel⟩
theorem ok_is_mode {f : Addr} {fd : FuncData} (F : Fun K "is_mode" "is_mode" st_is_mode f fd) (T : Txt mg) (G_is_pair : Kn P w K mg base 1 "is_pair" ["value"] (spP 1 (F_is_pair))) (G_is_lot : Kn P w K mg base 2 "is_lot" ["acts", "value"] (spP 2 (F_is_lot))) (G_has_all : Kn P w K mg base 1 "has_all" ["lot", "other"] (spP 2 (F_has_all))) : FnOk P w K mg base CX0 3 f fd ["rules", "value"] (spP 2 (F_is_mode)) :=
  fn_P F sc_is_mode fun cdv A out s H E hr =>
    (ds_cons (ds_if (dt_not (dt_val (d_callP (G_is_pair.rn) (hr.mono (by decide)) (by rfl) G_is_pair.mg G_is_pair.kp G_is_pair.bd (da_cons (d_var (pv 1)) da_nil) (aLen_cons aLen_nil)))) (ds_one (ds_ret d_bl)) ds_nil)
      (ds_cons (ds_pat (d_var (pv 1)) (pg_tup rfl (pgs_cons (pg_name (i := 2) sc_is_mode.nd rfl (by first | exact Or.inl rfl | exact Or.inr rfl)) (pgs_cons (pg_name (i := 3) sc_is_mode.nd rfl (by first | exact Or.inl rfl | exact Or.inr rfl)) pgs_nil))) (gd_tup (gds_cons gd_name (gds_cons gd_name gds_nil)) (gLen_cons (gLen_cons gLen_nil))))
      (ds_cons (ds_set (i := 4) sc_is_mode.nd rfl (by first | exact Or.inl rfl | exact Or.inr rfl) (d_ix ix_A p_ix (d_var (pv 0)) d_int (fun _ _ => rfl)))
      (ds_one (ds_ret (d_and (d_callP (G_is_lot.rn) (hr.mono (by decide)) (by rfl) G_is_lot.mg G_is_lot.kp G_is_lot.bd (da_cons (d_var (pv 4)) (da_cons (d_var (pv 2)) da_nil)) (aLen_cons (aLen_cons aLen_nil))) (d_and (d_callP (G_is_lot.rn) (hr.mono (by decide)) (by rfl) G_is_lot.mg G_is_lot.kp G_is_lot.bd (da_cons (d_var (pv 4)) (da_cons (d_var (pv 3)) da_nil)) (aLen_cons (aLen_cons aLen_nil))) (d_one (d_callP (G_has_all.rn) (hr.mono (by decide)) (by rfl) G_has_all.mg G_has_all.kp G_has_all.bd (da_cons (d_var (pv 3)) (da_cons (d_var (pv 2)) da_nil)) (aLen_cons (aLen_cons aLen_nil)))))))))))
/-! covers -/
def B_covers : S1 := (sRet (xAnd (xCallP (F_has_all) (aCons (x2 gIx (xVar 0) (xC (.int 0))) (aCons (x2 gIx (xVar 1) (xC (.int 0))) aNil))) (xCallP (F_has_all) (aCons (x2 gIx (xVar 0) (xC (.int 1))) (aCons (x2 gIx (xVar 1) (xC (.int 1))) aNil)))))
def F_covers : List PyData → Option PyData := fnP 2 B_covers
abbrev st_covers : Stmt := top 11
theorem sc_covers : FnScope ["one", "other"] ["one", "other"] (defScope st_covers) := ⟨rfl, rfl, rfl, by decide +kernel, rfl, by decide +kernel, by decide +kernel⟩
theorem ok_covers {f : Addr} {fd : FuncData} (F : Fun K "covers" "covers" st_covers f fd) (T : Txt mg) (G_has_all : Kn P w K mg base 1 "has_all" ["lot", "other"] (spP 2 (F_has_all))) : FnOk P w K mg base CX0 2 f fd ["one", "other"] (spP 2 (F_covers)) :=
  fn_P F sc_covers fun cdv A out s H E hr =>
    (ds_one (ds_ret (d_and (d_callP (G_has_all.rn) (hr.mono (by decide)) (by rfl) G_has_all.mg G_has_all.kp G_has_all.bd (da_cons (d_ix ix_A p_ix (d_var (pv 0)) d_int (fun _ _ => rfl)) (da_cons (d_ix ix_A p_ix (d_var (pv 1)) d_int (fun _ _ => rfl)) da_nil)) (aLen_cons (aLen_cons aLen_nil))) (d_one (d_callP (G_has_all.rn) (hr.mono (by decide)) (by rfl) G_has_all.mg G_has_all.kp G_has_all.bd (da_cons (d_ix ix_A p_ix (d_var (pv 0)) d_int (fun _ _ => rfl)) (da_cons (d_ix ix_A p_ix (d_var (pv 1)) d_int (fun _ _ => rfl)) da_nil)) (aLen_cons (aLen_cons aLen_nil)))))))
/-! hinders -/
def B_hinders : S1 := (sRet (xN gAny (aCons (xLc [3] (iSeq (xCallP (F_against) (aCons (xVar 0) (aCons (x2 gIx (xVar 1) (xC (.int 0))) aNil)))) (gN 3) tTrue (x2 (gIn false) (xVar 3) (x2 gIx (xVar 2) (xC (.int 1))))) aNil)))
def F_hinders : List PyData → Option PyData := fnP 4 B_hinders
abbrev st_hinders : Stmt := top 13
theorem sc_hinders : FnScope ["rules", "one", "other", "act"] ["rules", "one", "other"] (defScope st_hinders) := ⟨rfl, rfl, rfl, by decide +kernel, rfl, by decide +kernel, by decide +kernel⟩
theorem ok_hinders {f : Addr} {fd : FuncData} (F : Fun K "hinders" "hinders" st_hinders f fd) (T : Txt mg) (G_against : Kn P w K mg base 2 "against" ["rules", "lot"] (spP 2 (F_against))) : FnOk P w K mg base CX0 3 f fd ["rules", "one", "other"] (spP 3 (F_hinders)) :=
  fn_P F sc_hinders fun cdv A out s H E hr =>
    (ds_one (ds_ret (d_callB (cr_any rfl) p_any (by rfl) T.any boot_any_ (da_cons (d_new (f_lc (own := [("act", 3)]) rfl sc_hinders.nd (pi_seq (d_callP (G_against.rn) (hr.mono (by decide)) (by rfl) G_against.mg G_against.kp G_against.bd (da_cons (d_var (pv 0)) (da_cons (d_ix ix_A p_ix (d_var (pv 1)) d_int (fun _ _ => rfl)) da_nil)) (aLen_cons (aLen_cons aLen_nil)))) so_seq.ow (blkOk_by (by kernel_rfl)) (fun _ _ _ _ _ => (pg_name (i := 3) sc_hinders.nd rfl (by first | exact Or.inl rfl | exact Or.inr rfl))) gd_name (by decide) (fun _ _ _ _ _ => dts_nil) (fun _ _ _ _ _ => (d_cmp (op_inV hr.u66) p_in (d_var (pv 3)) (d_ix ix_A p_ix (d_var (pv 2)) d_int (fun _ _ => rfl)) (by rfl)))) isl_lc) da_nil))))
/-! goes -/
def B_goes : S1 := (sRet (xAnd (xNot (xCallP (F_hinders) (aCons (xVar 0) (aCons (xVar 1) (aCons (xVar 2) aNil))))) (xNot (xCallP (F_hinders) (aCons (xVar 0) (aCons (xVar 2) (aCons (xVar 1) aNil)))))))
def F_goes : List PyData → Option PyData := fnP 3 B_goes
abbrev st_goes : Stmt := top 12
theorem sc_goes : FnScope ["rules", "one", "other"] ["rules", "one", "other"] (defScope st_goes) := ⟨rfl, rfl, rfl, by decide +kernel, rfl, by decide +kernel, by decide +kernel⟩
theorem ok_goes {f : Addr} {fd : FuncData} (F : Fun K "goes" "goes" st_goes f fd) (T : Txt mg) (G_hinders : Kn P w K mg base 3 "hinders" ["rules", "one", "other"] (spP 3 (F_hinders))) : FnOk P w K mg base CX0 4 f fd ["rules", "one", "other"] (spP 3 (F_goes)) :=
  fn_P F sc_goes fun cdv A out s H E hr =>
    (ds_one (ds_ret (d_and (d_not (d_callP (G_hinders.rn) (hr.mono (by decide)) (by rfl) G_hinders.mg G_hinders.kp G_hinders.bd (da_cons (d_var (pv 0)) (da_cons (d_var (pv 1)) (da_cons (d_var (pv 2)) da_nil))) (aLen_cons (aLen_cons (aLen_cons aLen_nil))))) (d_one (d_not (d_callP (G_hinders.rn) (hr.mono (by decide)) (by rfl) G_hinders.mg G_hinders.kp G_hinders.bd (da_cons (d_var (pv 0)) (da_cons (d_var (pv 2)) (da_cons (d_var (pv 1)) da_nil))) (aLen_cons (aLen_cons (aLen_cons aLen_nil)))))))))
/-! widened -/
def B_widened : S1 := (sSeq (sSet 2 (xCallP (F_against) (aCons (xVar 0) (aCons (xVar 1) aNil))))
    (sRet (xN gTuple (aCons (xLc [3] (iRange1 (x2 gIx (xVar 0) (xC (.int 0)))) (gN 3) (tBool (xCallP (F_has_all) (aCons (xVar 2) (aCons (xCallP (F_against) (aCons (xVar 0) (aCons (xTup (aCons (xVar 3) aNil)) aNil))) aNil)))) (xVar 3)) aNil))))
def F_widened : List PyData → Option PyData := fnP 4 B_widened
abbrev st_widened : Stmt := top 16
theorem sc_widened : FnScope ["rules", "lot", "barred", "act"] ["rules", "lot"] (defScope st_widened) := ⟨rfl, rfl, rfl, by decide +kernel, rfl, by decide +kernel, by decide +kernel⟩
theorem ok_widened {f : Addr} {fd : FuncData} (F : Fun K "widened" "widened" st_widened f fd) (T : Txt mg) (G_against : Kn P w K mg base 2 "against" ["rules", "lot"] (spP 2 (F_against))) (G_has_all : Kn P w K mg base 1 "has_all" ["lot", "other"] (spP 2 (F_has_all))) : FnOk P w K mg base CX0 3 f fd ["rules", "lot"] (spP 2 (F_widened)) :=
  fn_P F sc_widened fun cdv A out s H E hr =>
    (ds_cons (ds_set (i := 2) sc_widened.nd rfl (by first | exact Or.inl rfl | exact Or.inr rfl) (d_callP (G_against.rn) (hr.mono (by decide)) (by rfl) G_against.mg G_against.kp G_against.bd (da_cons (d_var (pv 0)) (da_cons (d_var (pv 1)) da_nil)) (aLen_cons (aLen_cons aLen_nil))))
      (ds_one (ds_ret (d_callTy call_tuple_of p_tuple (by rfl) T.tuple boot_tuple_ (da_cons (d_new (f_lc (own := [("act", 3)]) rfl sc_widened.nd (pi_range1 (by rfl) T.range (da_cons (d_ix ix_A p_ix (d_var (pv 0)) d_int (fun _ _ => rfl)) da_nil)) so_range1.ow (blkOk_by (by kernel_rfl)) (fun _ _ _ _ _ => (pg_name (i := 3) sc_widened.nd rfl (by first | exact Or.inl rfl | exact Or.inr rfl))) gd_name (by decide) (fun _ _ _ _ _ => (dts_one (dt_val (d_callP (G_has_all.rn) (hr.mono (by decide)) (by rfl) G_has_all.mg G_has_all.kp G_has_all.bd (da_cons (d_var (pv 2)) (da_cons (d_callP (G_against.rn) (hr.mono (by decide)) (by rfl) G_against.mg G_against.kp G_against.bd (da_cons (d_var (pv 0)) (da_cons (d_tup (da_cons (d_var (pv 3)) da_nil) (aLen_cons aLen_nil)) da_nil)) (aLen_cons (aLen_cons aLen_nil))) da_nil)) (aLen_cons (aLen_cons aLen_nil)))))) (fun _ _ _ _ _ => (d_var (pv 3)))) isl_lc) da_nil)))))
/-! full -/
def B_full : S1 := (sRet (xTup (aCons (xCallP (F_widened) (aCons (xVar 0) (aCons (x2 gIx (xVar 1) (xC (.int 0))) aNil))) (aCons (xCallP (F_widened) (aCons (xVar 0) (aCons (x2 gIx (xVar 1) (xC (.int 1))) aNil))) aNil))))
def F_full : List PyData → Option PyData := fnP 2 B_full
abbrev st_full : Stmt := top 15
theorem sc_full : FnScope ["rules", "mode"] ["rules", "mode"] (defScope st_full) := ⟨rfl, rfl, rfl, by decide +kernel, rfl, by decide +kernel, by decide +kernel⟩
theorem ok_full {f : Addr} {fd : FuncData} (F : Fun K "full" "full" st_full f fd) (T : Txt mg) (G_widened : Kn P w K mg base 3 "widened" ["rules", "lot"] (spP 2 (F_widened))) : FnOk P w K mg base CX0 4 f fd ["rules", "mode"] (spP 2 (F_full)) :=
  fn_P F sc_full fun cdv A out s H E hr =>
    (ds_one (ds_ret (d_tup (da_cons (d_callP (G_widened.rn) (hr.mono (by decide)) (by rfl) G_widened.mg G_widened.kp G_widened.bd (da_cons (d_var (pv 0)) (da_cons (d_ix ix_A p_ix (d_var (pv 1)) d_int (fun _ _ => rfl)) da_nil)) (aLen_cons (aLen_cons aLen_nil))) (da_cons (d_callP (G_widened.rn) (hr.mono (by decide)) (by rfl) G_widened.mg G_widened.kp G_widened.bd (da_cons (d_var (pv 0)) (da_cons (d_ix ix_A p_ix (d_var (pv 1)) d_int (fun _ _ => rfl)) da_nil)) (aLen_cons (aLen_cons aLen_nil))) da_nil)) (aLen_cons (aLen_cons aLen_nil)))))
/-! alike -/
def B_alike : S1 := (sRet (x2 gEqS (xLc [3] (iSeq (xVar 1)) (gN 3) tTrue (xCallP (F_against) (aCons (xVar 0) (aCons (xVar 3) aNil)))) (xLc [3] (iSeq (xVar 2)) (gN 3) tTrue (xCallP (F_against) (aCons (xVar 0) (aCons (xVar 3) aNil))))))
def F_alike : List PyData → Option PyData := fnP 4 B_alike
abbrev st_alike : Stmt := top 17
theorem sc_alike : FnScope ["rules", "one", "other", "lot"] ["rules", "one", "other"] (defScope st_alike) := ⟨rfl, rfl, rfl, by decide +kernel, rfl, by decide +kernel, by decide +kernel⟩
theorem ok_alike {f : Addr} {fd : FuncData} (F : Fun K "alike" "alike" st_alike f fd) (T : Txt mg) (G_against : Kn P w K mg base 2 "against" ["rules", "lot"] (spP 2 (F_against))) : FnOk P w K mg base CX0 3 f fd ["rules", "one", "other"] (spP 3 (F_alike)) :=
  fn_P F sc_alike fun cdv A out s H E hr =>
    (ds_one (ds_ret (d_cmp (op_eqA hr.u64) p_eqA (d_new (f_lc (own := [("lot", 3)]) rfl sc_alike.nd (pi_seq (d_var (pv 1))) so_seq.ow (blkOk_by (by kernel_rfl)) (fun _ _ _ _ _ => (pg_name (i := 3) sc_alike.nd rfl (by first | exact Or.inl rfl | exact Or.inr rfl))) gd_name (by decide) (fun _ _ _ _ _ => dts_nil) (fun _ _ _ _ _ => (d_callP (G_against.rn) (hr.mono (by decide)) (by rfl) G_against.mg G_against.kp G_against.bd (da_cons (d_var (pv 0)) (da_cons (d_var (pv 3)) da_nil)) (aLen_cons (aLen_cons aLen_nil))))) isl_lc) (d_new (f_lc (own := [("lot", 3)]) rfl sc_alike.nd (pi_seq (d_var (pv 2))) so_seq.ow (blkOk_by (by kernel_rfl)) (fun _ _ _ _ _ => (pg_name (i := 3) sc_alike.nd rfl (by first | exact Or.inl rfl | exact Or.inr rfl))) gd_name (by decide) (fun _ _ _ _ _ => dts_nil) (fun _ _ _ _ _ => (d_callP (G_against.rn) (hr.mono (by decide)) (by rfl) G_against.mg G_against.kp G_against.bd (da_cons (d_var (pv 0)) (da_cons (d_var (pv 3)) da_nil)) (aLen_cons (aLen_cons aLen_nil))))) isl_lc) (nomark _))))
/-! all_lots -/
def B_all_lots : S1 := (sSeq (sSet 1 (xLst (aCons (xTup aNil) aNil)))
    (sSeq (sFor (iRange1 (xVar 0)) (gN 2) (sSet 1 (x2 gAdd (xVar 1) (xLc [3] (iSeq (xVar 1)) (gN 3) tTrue (xTupS (aStar (xVar 3) (aCons (xVar 2) aNil)))))))
    (sRet (xVar 1))))
def F_all_lots : List PyData → Option PyData := fnP 4 B_all_lots
abbrev st_all_lots : Stmt := top 19
theorem sc_all_lots : FnScope ["acts", "lots", "act", "lot"] ["acts"] (defScope st_all_lots) := ⟨rfl, rfl, rfl, by decide +kernel, rfl, by decide +kernel, by decide +kernel⟩
theorem ok_all_lots {f : Addr} {fd : FuncData} (F : Fun K "all_lots" "all_lots" st_all_lots f fd) (T : Txt mg)  : FnOk P w K mg base CX0 1 f fd ["acts"] (spP 1 (F_all_lots)) :=
  fn_P F sc_all_lots fun cdv A out s H E hr =>
    (ds_cons (ds_set (i := 1) sc_all_lots.nd rfl (by first | exact Or.inl rfl | exact Or.inr rfl) (d_new (f_lst (da_cons (d_tup da_nil aLen_nil) da_nil) (aLen_cons aLen_nil)) isl_lst))
      (ds_cons (ds_for PassesOwn.never rfl (pi_range1 (by rfl) T.range (da_cons (d_var (pv 0)) da_nil)) so_range1 (pg_name (i := 2) sc_all_lots.nd rfl (by first | exact Or.inl rfl | exact Or.inr rfl)) gd_name (ds_one (ds_set (i := 1) sc_all_lots.nd rfl (by first | exact Or.inl rfl | exact Or.inr rfl) (d_op op_addA p_add (d_var (pv 1)) (d_new (f_lc (own := [("lot", 3)]) rfl sc_all_lots.nd (pi_seq (d_var (pv 1))) so_seq.ow (blkOk_by (by kernel_rfl)) (fun _ _ _ _ _ => (pg_name (i := 3) sc_all_lots.nd rfl (by first | exact Or.inl rfl | exact Or.inr rfl))) gd_name (by decide) (fun _ _ _ _ _ => dts_nil) (fun _ _ _ _ _ => (d_tupS (da_star (d_var (pv 3)) (da_cons (d_var (pv 2)) da_nil))))) isl_lc)))))
      (ds_one (ds_ret (d_var (pv 1))))))
/-! kinds -/
def B_kinds : S1 := (sSeq (sSet 1 (xSrtN [2] (iSeq (xCallP (F_all_lots) (aCons (x2 gIx (xVar 0) (xC (.int 0))) aNil))) (gN 2) tTrue (xCallP (F_widened) (aCons (xVar 0) (aCons (xVar 2) aNil)))))
    (sRet (xN gTuple (aCons (xLc2 [3, 4] [4] (iSeq (xVar 1)) (gN 3) tTrue (iSeq (xVar 1)) (gN 4) (tBool (xCallP (F_has_all) (aCons (xVar 4) (aCons (xVar 3) aNil)))) (xTup (aCons (xVar 3) (aCons (xVar 4) aNil)))) aNil))))
def F_kinds : List PyData → Option PyData := fnP 5 B_kinds
abbrev st_kinds : Stmt := top 18
theorem sc_kinds : FnScope ["rules", "wide", "lot", "own", "means"] ["rules"] (defScope st_kinds) := ⟨rfl, rfl, rfl, by decide +kernel, rfl, by decide +kernel, by decide +kernel⟩
theorem ok_kinds {f : Addr} {fd : FuncData} (F : Fun K "kinds" "kinds" st_kinds f fd) (T : Txt mg) (G_widened : Kn P w K mg base 3 "widened" ["rules", "lot"] (spP 2 (F_widened))) (G_all_lots : Kn P w K mg base 1 "all_lots" ["acts"] (spP 1 (F_all_lots))) (G_has_all : Kn P w K mg base 1 "has_all" ["lot", "other"] (spP 2 (F_has_all))) : FnOk P w K mg base CX0 4 f fd ["rules"] (spP 1 (F_kinds)) :=
  fn_P F sc_kinds fun cdv A out s H E hr =>
    (ds_cons (ds_set (i := 1) sc_kinds.nd rfl (by first | exact Or.inl rfl | exact Or.inr rfl) (d_srtN (own := [("lot", 2)]) rfl hr.u100 (by rfl) T.sorted sc_kinds.nd (pi_seq (d_callP (G_all_lots.rn) (hr.mono (by decide)) (by rfl) G_all_lots.mg G_all_lots.kp G_all_lots.bd (da_cons (d_ix ix_A p_ix (d_var (pv 0)) d_int (fun _ _ => rfl)) da_nil) (aLen_cons aLen_nil))) so_seq.ow (blkOk_by (by kernel_rfl)) (fun _ _ _ _ _ => (pg_name (i := 2) sc_kinds.nd rfl (by first | exact Or.inl rfl | exact Or.inr rfl))) gd_name (by decide) (fun _ _ _ _ _ => dts_nil) (fun _ _ _ _ _ => (d_callP (G_widened.rn) (hr.mono (by decide)) (by rfl) G_widened.mg G_widened.kp G_widened.bd (da_cons (d_var (pv 0)) (da_cons (d_var (pv 2)) da_nil)) (aLen_cons (aLen_cons aLen_nil))))))
      (ds_one (ds_ret (d_callTy call_tuple_of p_tuple (by rfl) T.tuple boot_tuple_ (da_cons (d_new (f_lc2 (own := [("own", 3), ("means", 4)]) (vs1 := [4]) rfl sc_kinds.nd (pi_seq (d_var (pv 1))) so_seq.ow (blkOk_by (by kernel_rfl)) (by decide) (fun _ _ _ _ _ => (pg_name (i := 3) sc_kinds.nd rfl (by first | exact Or.inl rfl | exact Or.inr rfl))) gd_name (by decide) (fun _ _ _ _ _ => dts_nil) (fun _ _ _ _ _ => (pi_seq (d_var (pv 1)))) so_seq (fun _ _ _ _ _ => (pg_name (i := 4) sc_kinds.nd rfl (by first | exact Or.inl rfl | exact Or.inr rfl))) gd_name (by decide) (fun _ _ _ _ _ => (dts_one (dt_val (d_callP (G_has_all.rn) (hr.mono (by decide)) (by rfl) G_has_all.mg G_has_all.kp G_has_all.bd (da_cons (d_var (pv 4)) (da_cons (d_var (pv 3)) da_nil)) (aLen_cons (aLen_cons aLen_nil)))))) (fun _ _ _ _ _ => (d_tup (da_cons (d_var (pv 3)) (da_cons (d_var (pv 4)) da_nil)) (aLen_cons (aLen_cons aLen_nil))))) isl_lc2) da_nil)))))
/-! is_served -/
def B_is_served : S1 := (sRet (xN gAny (aCons (xLc [3] (iSeq (xVar 2)) (gN 3) tTrue (xAnd (xCallP (F_covers) (aCons (xVar 3) (aCons (xVar 1) aNil))) (xCallP (F_alike) (aCons (xVar 0) (aCons (xVar 3) (aCons (xVar 1) aNil)))))) aNil)))
def F_is_served : List PyData → Option PyData := fnP 4 B_is_served
abbrev st_is_served : Stmt := top 21
theorem sc_is_served : FnScope ["rules", "mode", "held", "item"] ["rules", "mode", "held"] (defScope st_is_served) := ⟨rfl, rfl, rfl, by decide +kernel, rfl, by decide +kernel, by decide +kernel⟩
theorem ok_is_served {f : Addr} {fd : FuncData} (F : Fun K "is_served" "is_served" st_is_served f fd) (T : Txt mg) (G_covers : Kn P w K mg base 2 "covers" ["one", "other"] (spP 2 (F_covers))) (G_alike : Kn P w K mg base 3 "alike" ["rules", "one", "other"] (spP 3 (F_alike))) : FnOk P w K mg base CX0 4 f fd ["rules", "mode", "held"] (spP 3 (F_is_served)) :=
  fn_P F sc_is_served fun cdv A out s H E hr =>
    (ds_one (ds_ret (d_callB (cr_any rfl) p_any (by rfl) T.any boot_any_ (da_cons (d_new (f_lc (own := [("item", 3)]) rfl sc_is_served.nd (pi_seq (d_var (pv 2))) so_seq.ow (blkOk_by (by kernel_rfl)) (fun _ _ _ _ _ => (pg_name (i := 3) sc_is_served.nd rfl (by first | exact Or.inl rfl | exact Or.inr rfl))) gd_name (by decide) (fun _ _ _ _ _ => dts_nil) (fun _ _ _ _ _ => (d_and (d_callP (G_covers.rn) (hr.mono (by decide)) (by rfl) G_covers.mg G_covers.kp G_covers.bd (da_cons (d_var (pv 3)) (da_cons (d_var (pv 1)) da_nil)) (aLen_cons (aLen_cons aLen_nil))) (d_one (d_callP (G_alike.rn) (hr.mono (by decide)) (by rfl) G_alike.mg G_alike.kp G_alike.bd (da_cons (d_var (pv 0)) (da_cons (d_var (pv 3)) (da_cons (d_var (pv 1)) da_nil))) (aLen_cons (aLen_cons (aLen_cons aLen_nil)))))))) isl_lc) da_nil))))
/-! serves -/
def B_serves : S1 := (sSeq (sIf (tOrB (tNotB (tBool (x1 (gIsi "tuple") (xVar 2)))) (tNotB (tBool (xN gAll (aCons (xLc [4] (iSeq (xVar 2)) (gN 4) tTrue (xCallP (F_is_mode) (aCons (xVar 0) (aCons (xVar 4) aNil)))) aNil))))) (sRet (xC (.bool false))) sNx)
    (sSeq (sSet 3 (x1 gSortSetN (xVar 2)))
    (sRet (xN gAll (aCons (xLc [5] (iSeq (xVar 1)) (gN 5) tTrue (xCallP (F_is_served) (aCons (xVar 0) (aCons (xVar 5) (aCons (xVar 3) aNil))))) aNil)))))
def F_serves : List PyData → Option PyData := fnP 6 B_serves
abbrev st_serves : Stmt := top 20
theorem sc_serves : FnScope ["rules", "modes", "value", "held", "item", "mode"] ["rules", "modes", "value"] (defScope st_serves) := ⟨rfl, rfl, rfl, by decide +kernel, rfl, by decide +kernel, by decide +kernel⟩
theorem ok_serves {f : Addr} {fd : FuncData} (F : Fun K "serves" "serves" st_serves f fd) (T : Txt mg) (G_is_mode : Kn P w K mg base 3 "is_mode" ["rules", "value"] (spP 2 (F_is_mode))) (G_is_served : Kn P w K mg base 4 "is_served" ["rules", "mode", "held"] (spP 3 (F_is_served))) : FnOk P w K mg base CX0 5 f fd ["rules", "modes", "value"] (spP 3 (F_serves)) :=
  fn_P F sc_serves fun cdv A out s H E hr =>
    (ds_cons (ds_if (dw_or (dt_not (dt_val (d_isi (by rfl) T.isinstance (by rfl) T.tuple boot_tuple_ (d_var (pv 2))))) (dw_or1 (dt_not (dt_val (d_callB (cr_all rfl) p_all (by rfl) T.all boot_all_ (da_cons (d_new (f_lc (own := [("item", 4)]) rfl sc_serves.nd (pi_seq (d_var (pv 2))) so_seq.ow (blkOk_by (by kernel_rfl)) (fun _ _ _ _ _ => (pg_name (i := 4) sc_serves.nd rfl (by first | exact Or.inl rfl | exact Or.inr rfl))) gd_name (by decide) (fun _ _ _ _ _ => dts_nil) (fun _ _ _ _ _ => (d_callP (G_is_mode.rn) (hr.mono (by decide)) (by rfl) G_is_mode.mg G_is_mode.kp G_is_mode.bd (da_cons (d_var (pv 0)) (da_cons (d_var (pv 4)) da_nil)) (aLen_cons (aLen_cons aLen_nil))))) isl_lc) da_nil)))))).pt (ds_one (ds_ret d_bl)) ds_nil)
      (ds_cons (ds_set (i := 3) sc_serves.nd rfl (by first | exact Or.inl rfl | exact Or.inr rfl) (d_sortSetN hr.u64 hr.u100 rfl (by rfl) T.sorted (by rfl) T.set (d_var (pv 2))))
      (ds_one (ds_ret (d_callB (cr_all rfl) p_all (by rfl) T.all boot_all_ (da_cons (d_new (f_lc (own := [("mode", 5)]) rfl sc_serves.nd (pi_seq (d_var (pv 1))) so_seq.ow (blkOk_by (by kernel_rfl)) (fun _ _ _ _ _ => (pg_name (i := 5) sc_serves.nd rfl (by first | exact Or.inl rfl | exact Or.inr rfl))) gd_name (by decide) (fun _ _ _ _ _ => dts_nil) (fun _ _ _ _ _ => (d_callP (G_is_served.rn) (hr.mono (by decide)) (by rfl) G_is_served.mg G_is_served.kp G_is_served.bd (da_cons (d_var (pv 0)) (da_cons (d_var (pv 5)) (da_cons (d_var (pv 3)) da_nil))) (aLen_cons (aLen_cons (aLen_cons aLen_nil)))))) isl_lc) da_nil))))))
/-! fewest -/
def B_fewest : S1 := (sRet (xN gTuple (aCons (xSrtN [2] (iSeq (xVar 1)) (gN 2) tTrue (xCallP (F_full) (aCons (xVar 0) (aCons (xVar 2) aNil)))) aNil)))
def F_fewest : List PyData → Option PyData := fnP 3 B_fewest
abbrev st_fewest : Stmt := top 22
theorem sc_fewest : FnScope ["rules", "modes", "mode"] ["rules", "modes"] (defScope st_fewest) := ⟨rfl, rfl, rfl, by decide +kernel, rfl, by decide +kernel, by decide +kernel⟩
theorem ok_fewest {f : Addr} {fd : FuncData} (F : Fun K "fewest" "fewest" st_fewest f fd) (T : Txt mg) (G_full : Kn P w K mg base 4 "full" ["rules", "mode"] (spP 2 (F_full))) : FnOk P w K mg base CX0 5 f fd ["rules", "modes"] (spP 2 (F_fewest)) :=
  fn_P F sc_fewest fun cdv A out s H E hr =>
    (ds_one (ds_ret (d_callTy call_tuple_of p_tuple (by rfl) T.tuple boot_tuple_ (da_cons (d_srtN (own := [("mode", 2)]) rfl hr.u100 (by rfl) T.sorted sc_fewest.nd (pi_seq (d_var (pv 1))) so_seq.ow (blkOk_by (by kernel_rfl)) (fun _ _ _ _ _ => (pg_name (i := 2) sc_fewest.nd rfl (by first | exact Or.inl rfl | exact Or.inr rfl))) gd_name (by decide) (fun _ _ _ _ _ => dts_nil) (fun _ _ _ _ _ => (d_callP (G_full.rn) (hr.mono (by decide)) (by rfl) G_full.mg G_full.kp G_full.bd (da_cons (d_var (pv 0)) (da_cons (d_var (pv 2)) da_nil)) (aLen_cons (aLen_cons aLen_nil))))) da_nil))))
/-! _law_deck -/
noncomputable def B_law_deck (K : PySem.W.Frag) : S1 := (sSeq (sSet 1 (xC (.int 0)))
    (sSeq (sFor (iSeq (xScrCut K 0 oNone (oSome (xC (.int 57))))) (gN 2) (sIf (tBool (x2 gGe (xN gAbs (aCons (xVar 2) aNil)) (x2 gPow (xC (.int 10)) (xC (.int 18))))) (sSet 1 (x2 gAdd (x2 gMul (xVar 1) (xC (.int 83))) (xN gAbs (aCons (xVar 2) aNil)))) sNx))
    (sRet (xDispO [(.inr "cells", (x2 gAdd (xN gList (aCons (xScrCut K 0 oNone (oSome (xC (.int 57)))) aNil)) (xLst (aCons (x2 gAdd (xScrLen K 0) (xC (.int 23))) aNil)))), (.inr "turn", (xC (.int 0))), (.inr "great", (xVar 1))]))))
noncomputable def F_law_deck (K : PySem.W.Frag) : List FA → Wd → Option (FA × Wd) := fnD 3 (B_law_deck K)
abbrev st_law_deck : Stmt := top 24
theorem sc_law_deck : FnScope ["_law_script", "_law_great", "_law_cell"] ["_law_script"] (defScope st_law_deck) := ⟨rfl, rfl, rfl, by decide +kernel, rfl, by decide +kernel, by decide +kernel⟩
theorem ok_law_deck {f : Addr} {fd : FuncData} (F : Fun K "_law_deck" "_law_deck" st_law_deck f fd) (T : Txt mg)  : FnOk P w K mg base CX0 1 f fd ["_law_script"] (spD 1 (F_law_deck K)) :=
  fn_D F sc_law_deck fun cdv A out s H E hr =>
    (ds_cons (ds_set (i := 1) sc_law_deck.nd rfl (by first | exact Or.inl rfl | exact Or.inr rfl) d_int)
      (ds_cons (ds_for PassesOwn.never rfl (pi_seq (d_scrCut (pv 0) do_none (do_some d_int))) so_seq (pg_name (i := 2) sc_law_deck.nd rfl (by first | exact Or.inl rfl | exact Or.inr rfl)) gd_name (ds_one (ds_if (dt_cmp op_ge p_ge (d_callB call_abs p_abs (by rfl) T.abs boot_abs_ (da_cons (d_var (pv 2)) da_nil)) (d_op op_pow p_pow d_int d_int) (nomark _)) (ds_one (ds_set (i := 1) sc_law_deck.nd rfl (by first | exact Or.inl rfl | exact Or.inr rfl) (d_op op_addA p_add (d_op op_mul p_mul (d_var (pv 1)) d_int) (d_callB call_abs p_abs (by rfl) T.abs boot_abs_ (da_cons (d_var (pv 2)) da_nil))))) ds_nil)))
      (ds_one (ds_ret (d_dispO [(.inr "cells", (x2 gAdd (xN gList (aCons (xScrCut K 0 oNone (oSome (xC (.int 57)))) aNil)) (xLst (aCons (x2 gAdd (xScrLen K 0) (xC (.int 23))) aNil)))), (.inr "turn", (xC (.int 0))), (.inr "great", (xVar 1))] (pps_cons pe_str (d_op op_addA p_add (d_new (f_listOf (by rfl) T.list (da_cons (d_scrCut (pv 0) do_none (do_some d_int)) da_nil)) isl_listOf) (d_new (f_lst (da_cons (d_op op_addA p_add (d_scrLen (by rfl) T.len PySem.boot_len (pv 0)) d_int) da_nil) (aLen_cons aLen_nil)) isl_lst)) (pps_cons pe_str d_int (pps_cons pe_str (d_var (pv 1)) pps_nil))) rfl rfl (by decide) (by decide))))))
/-! _law_take -/
def B_law_take : S1 := (sSeq (sPutK 0 (.inr "turn") (x2 gAdd (xKey 0 (.inr "turn")) (xC (.int 1))))
    (sSeq (sIf (tBool (x2 gGt (xKey 0 (.inr "great")) (xC (.int 0)))) (sSeq (sSet 2 (x2 gMod (xKey 0 (.inr "great")) (xVar 1)))
    (sSeq (sPutK 0 (.inr "great") (x2 gDiv (xKey 0 (.inr "great")) (xVar 1)))
    (sRet (xVar 2)))) sNx)
    (sSeq (sPar 3 4 (aCons (xKey 0 (.inr "turn")) (aCons (xKey 0 (.inr "cells")) aNil)))
    (sSeq (sSet 5 (x2 gMod (x2 gPow (x2 gAdd (x2 gAdd (x2 gMod (x2 gIx (xVar 4) (x2 gMod (xVar 3) (xN gLen (aCons (xVar 4) aNil)))) (xC (.int 2147483399))) (x2 gMul (xC (.int 70001)) (xVar 3))) (xC (.int 53))) (xC (.int 3))) (xC (.int 2147483489))))
    (sRet (x2 gMod (x2 gDiv (x2 gMod (x2 gAdd (x2 gMul (xVar 5) (xC (.int 53147))) (x2 gMul (x2 gMul (xC (.int 6397)) (xVar 3)) (xVar 3))) (xC (.int 2147483423))) (xC (.int 13))) (xVar 1)))))))
def F_law_take : List FA → Wd → Option (FA × Wd) := fnD 6 (B_law_take)
abbrev st_law_take : Stmt := top 25
theorem sc_law_take : FnScope ["_law_deck_here", "_law_many", "_law_digit", "_law_turn", "_law_cells", "_law_mixed"] ["_law_deck_here", "_law_many"] (defScope st_law_take) := ⟨rfl, rfl, rfl, by decide +kernel, rfl, by decide +kernel, by decide +kernel⟩
theorem ok_law_take {f : Addr} {fd : FuncData} (F : Fun K "_law_take" "_law_take" st_law_take f fd) (T : Txt mg)  : FnOk P w K mg base CX0 1 f fd ["_law_deck_here", "_law_many"] (spD 2 (F_law_take)) :=
  fn_D F sc_law_take fun cdv A out s H E hr =>
    (ds_cons (ds_putS hr.u1 (pv 0) pe_str (d_op op_addA p_add (d_keyS hr.u1 (pv 0) pe_str (fun _ _ => rfl)) d_int))
      (ds_cons (ds_if (dt_cmp op_gt p_gt (d_keyS hr.u1 (pv 0) pe_str (fun _ _ => rfl)) d_int (nomark _)) (ds_cons (ds_set (i := 2) sc_law_take.nd rfl (by first | exact Or.inl rfl | exact Or.inr rfl) (d_op op_modN p_mod (d_keyS hr.u1 (pv 0) pe_str (fun _ _ => rfl)) (d_var (pv 1))))
      (ds_cons (ds_putS hr.u1 (pv 0) pe_str (d_op op_fdivN p_div (d_keyS hr.u1 (pv 0) pe_str (fun _ _ => rfl)) (d_var (pv 1))))
      (ds_one (ds_ret (d_var (pv 2)))))) ds_nil)
      (ds_cons (ds_par (i := 3) (j := 4) rfl sc_law_take.nd rfl rfl (by decide) rfl rfl (da_cons (d_keyS hr.u1 (pv 0) pe_str (fun _ _ => rfl)) (da_cons (d_keyS hr.u1 (pv 0) pe_str (fun _ _ => rfl)) da_nil)) rfl)
      (ds_cons (ds_set (i := 5) sc_law_take.nd rfl (by first | exact Or.inl rfl | exact Or.inr rfl) (d_op op_modN p_mod (d_op op_pow p_pow (d_op op_addA p_add (d_op op_addA p_add (d_op op_modN p_mod (d_ix ix_A p_ix (d_var (pv 4)) (d_op op_modN p_mod (d_var (pv 3)) (d_callB call_len_seq p_len (by rfl) T.len boot_len_ (da_cons (d_var (pv 4)) da_nil))) (fun _ _ => rfl)) d_int) (d_op op_mul p_mul d_int (d_var (pv 3)))) d_int) d_int) d_int))
      (ds_one (ds_ret (d_op op_modN p_mod (d_op op_fdivN p_div (d_op op_modN p_mod (d_op op_addA p_add (d_op op_mul p_mul (d_var (pv 5)) d_int) (d_op op_mul p_mul (d_op op_mul p_mul d_int (d_var (pv 3))) (d_var (pv 3)))) d_int) d_int) (d_var (pv 1)))))))))
/-! _law_one -/
def B_law_one : S1 := (sRet (x2 gIx (xVar 1) (xCallD (F_law_take) (aCons (xVar 0) (aCons (xN gLen (aCons (xVar 1) aNil)) aNil)))))
def F_law_one : List FA → Wd → Option (FA × Wd) := fnD 2 (B_law_one)
abbrev st_law_one : Stmt := top 26
theorem sc_law_one : FnScope ["_law_deck_here", "_law_items"] ["_law_deck_here", "_law_items"] (defScope st_law_one) := ⟨rfl, rfl, rfl, by decide +kernel, rfl, by decide +kernel, by decide +kernel⟩
theorem ok_law_one {f : Addr} {fd : FuncData} (F : Fun K "_law_one" "_law_one" st_law_one f fd) (T : Txt mg) (G_law_take : Kn P w K mg base 1 "_law_take" ["_law_deck_here", "_law_many"] (spD 2 (F_law_take))) : FnOk P w K mg base CX0 2 f fd ["_law_deck_here", "_law_items"] (spD 2 (F_law_one)) :=
  fn_D F sc_law_one fun cdv A out s H E hr =>
    (ds_one (ds_ret (d_ix ix_A p_ix (d_var (pv 1)) (d_callD (G_law_take.rn) (hr.mono (by decide)) (by rfl) G_law_take.mg G_law_take.kp G_law_take.bd (da_cons (d_var (pv 0)) (da_cons (d_callB call_len_seq p_len (by rfl) T.len boot_len_ (da_cons (d_var (pv 1)) da_nil)) da_nil)) (aLen_cons (aLen_cons aLen_nil))) (fun _ _ => rfl))))
/-! _law_rules -/
def B_law_rules : S1 := (sSeq (sPat (gT (gC (gN 2) (gC (gN 3) gE))) (xTup (aCons (x2 gAdd (xC (.int 1)) (xCallD (F_law_take) (aCons (xVar 0) (aCons (xVar 1) aNil)))) (aCons (xCallD (F_law_take) (aCons (xVar 0) (aCons (xC (.int 5)) aNil))) aNil))))
    (sSeq (sOwn 4 (xLst aNil))
    (sSeq (sFor (iRange1 (xVar 2)) (gN 5) (sExtend 4 (xLc [6] (iRange2 (xVar 5) (xVar 2)) (gN 6) (tBool (x2 gLt (xCallD (F_law_take) (aCons (xVar 0) (aCons (xC (.int 5)) aNil))) (xVar 3))) (xTup (aCons (xVar 5) (aCons (xVar 6) aNil))))))
    (sRet (xTup (aCons (xVar 2) (aCons (xN gTuple (aCons (xVar 4) aNil)) aNil)))))))
def F_law_rules : List FA → Wd → Option (FA × Wd) := fnD 7 (B_law_rules)
abbrev st_law_rules : Stmt := top 27
theorem sc_law_rules : FnScope ["_law_deck_here", "_law_most", "_law_acts", "_law_near", "_law_found", "_law_one_here", "_law_other"] ["_law_deck_here", "_law_most"] (defScope st_law_rules) := ⟨rfl, rfl, rfl, by decide +kernel, rfl, by decide +kernel, by decide +kernel⟩
theorem ok_law_rules {f : Addr} {fd : FuncData} (F : Fun K "_law_rules" "_law_rules" st_law_rules f fd) (T : Txt mg) (G_law_take : Kn P w K mg base 1 "_law_take" ["_law_deck_here", "_law_many"] (spD 2 (F_law_take))) : FnOk P w K mg base CX0 2 f fd ["_law_deck_here", "_law_most"] (spD 2 (F_law_rules)) :=
  fn_D F sc_law_rules fun cdv A out s H E hr =>
    (ds_cons (ds_pat (d_tup (da_cons (d_op op_addA p_add d_int (d_callD (G_law_take.rn) (hr.mono (by decide)) (by rfl) G_law_take.mg G_law_take.kp G_law_take.bd (da_cons (d_var (pv 0)) (da_cons (d_var (pv 1)) da_nil)) (aLen_cons (aLen_cons aLen_nil)))) (da_cons (d_callD (G_law_take.rn) (hr.mono (by decide)) (by rfl) G_law_take.mg G_law_take.kp G_law_take.bd (da_cons (d_var (pv 0)) (da_cons d_int da_nil)) (aLen_cons (aLen_cons aLen_nil))) da_nil)) (aLen_cons (aLen_cons aLen_nil))) (pg_tup rfl (pgs_cons (pg_name (i := 2) sc_law_rules.nd rfl (by first | exact Or.inl rfl | exact Or.inr rfl)) (pgs_cons (pg_name (i := 3) sc_law_rules.nd rfl (by first | exact Or.inl rfl | exact Or.inr rfl)) pgs_nil))) (gd_tup (gds_cons gd_name (gds_cons gd_name gds_nil)) (gLen_cons (gLen_cons gLen_nil))))
      (ds_cons (ds_own (i := 4) sc_law_rules.nd rfl (by first | exact Or.inl rfl | exact Or.inr rfl) (f_lst da_nil aLen_nil))
      (ds_cons (ds_for PassesOwn.never rfl (pi_range1 (by rfl) T.range (da_cons (d_var (pv 2)) da_nil)) so_range1 (pg_name (i := 5) sc_law_rules.nd rfl (by first | exact Or.inl rfl | exact Or.inr rfl)) gd_name (ds_one (ds_extend (i := 4) (pe_bm PySem.F.plainAttrs_list PySem.F.slot_list_extend PySem.F.type_list_extend mt_extend (pv 4) (pa_cons (f_lc (own := [("_law_other", 6)]) rfl sc_law_rules.nd (pi_range2 (by rfl) T.range (da_cons (d_var (pv 5)) (da_cons (d_var (pv 2)) da_nil))) so_range2.ow (blkOk_by (by kernel_rfl)) (fun _ _ _ _ _ => (pg_name (i := 6) sc_law_rules.nd rfl (by first | exact Or.inl rfl | exact Or.inr rfl))) gd_name (by decide) (fun _ _ _ _ _ => (dts_one (dt_cmp op_lt p_lt (d_callD (G_law_take.rn) (hr.mono (by decide)) (by rfl) G_law_take.mg G_law_take.kp G_law_take.bd (da_cons (d_var (pv 0)) (da_cons d_int da_nil)) (aLen_cons (aLen_cons aLen_nil))) (d_var (pv 3)) (nomark _)))) (fun _ _ _ _ _ => (d_tup (da_cons (d_var (pv 5)) (da_cons (d_var (pv 6)) da_nil)) (aLen_cons (aLen_cons aLen_nil))))) pa_nil)))))
      (ds_one (ds_ret (d_tup (da_cons (d_var (pv 2)) (da_cons (d_callTy call_tuple_of p_tuple (by rfl) T.tuple boot_tuple_ (da_cons (d_var (pv 4)) da_nil)) da_nil)) (aLen_cons (aLen_cons aLen_nil))))))))
/-! _law_lot -/
def B_law_lot : S1 := (sSeq (sSet 2 (xCallD (F_law_one) (aCons (xVar 0) (aCons (xLst (aCons (xC (.int 1)) (aCons (xC (.int 2)) (aCons (xC (.int 3)) aNil)))) aNil))))
    (sRet (xN gTuple (aCons (xLc [3] (iRange1 (xVar 1)) (gN 3) (tBool (x2 gLt (xCallD (F_law_take) (aCons (xVar 0) (aCons (xC (.int 4)) aNil))) (xVar 2))) (xVar 3)) aNil))))
def F_law_lot : List FA → Wd → Option (FA × Wd) := fnD 4 (B_law_lot)
abbrev st_law_lot : Stmt := top 28
theorem sc_law_lot : FnScope ["_law_deck_here", "_law_acts", "_law_near", "_law_act"] ["_law_deck_here", "_law_acts"] (defScope st_law_lot) := ⟨rfl, rfl, rfl, by decide +kernel, rfl, by decide +kernel, by decide +kernel⟩
theorem ok_law_lot {f : Addr} {fd : FuncData} (F : Fun K "_law_lot" "_law_lot" st_law_lot f fd) (T : Txt mg) (G_law_one : Kn P w K mg base 2 "_law_one" ["_law_deck_here", "_law_items"] (spD 2 (F_law_one))) (G_law_take : Kn P w K mg base 1 "_law_take" ["_law_deck_here", "_law_many"] (spD 2 (F_law_take))) : FnOk P w K mg base CX0 3 f fd ["_law_deck_here", "_law_acts"] (spD 2 (F_law_lot)) :=
  fn_D F sc_law_lot fun cdv A out s H E hr =>
    (ds_cons (ds_set (i := 2) sc_law_lot.nd rfl (by first | exact Or.inl rfl | exact Or.inr rfl) (d_callD (G_law_one.rn) (hr.mono (by decide)) (by rfl) G_law_one.mg G_law_one.kp G_law_one.bd (da_cons (d_var (pv 0)) (da_cons (d_new (f_lst (da_cons d_int (da_cons d_int (da_cons d_int da_nil))) (aLen_cons (aLen_cons (aLen_cons aLen_nil)))) isl_lst) da_nil)) (aLen_cons (aLen_cons aLen_nil))))
      (ds_one (ds_ret (d_callTy call_tuple_of p_tuple (by rfl) T.tuple boot_tuple_ (da_cons (d_new (f_lc (own := [("_law_act", 3)]) rfl sc_law_lot.nd (pi_range1 (by rfl) T.range (da_cons (d_var (pv 1)) da_nil)) so_range1.ow (blkOk_by (by kernel_rfl)) (fun _ _ _ _ _ => (pg_name (i := 3) sc_law_lot.nd rfl (by first | exact Or.inl rfl | exact Or.inr rfl))) gd_name (by decide) (fun _ _ _ _ _ => (dts_one (dt_cmp op_lt p_lt (d_callD (G_law_take.rn) (hr.mono (by decide)) (by rfl) G_law_take.mg G_law_take.kp G_law_take.bd (da_cons (d_var (pv 0)) (da_cons d_int da_nil)) (aLen_cons (aLen_cons aLen_nil))) (d_var (pv 2)) (nomark _)))) (fun _ _ _ _ _ => (d_var (pv 3)))) isl_lc) da_nil)))))
/-! _law_mode -/
def B_law_mode : S1 := (sSeq (sSet 2 (xCallD (F_law_lot) (aCons (xVar 0) (aCons (xVar 1) aNil))))
    (sSeq (sSet 3 (xCallD (F_law_one) (aCons (xVar 0) (aCons (xLst (aCons (xTup aNil) (aCons (xVar 2) (aCons (xCallD (F_law_lot) (aCons (xVar 0) (aCons (xVar 1) aNil))) aNil)))) aNil))))
    (sRet (xTup (aCons (xVar 3) (aCons (xN gTuple (aCons (x1 gSortSet (x2 gAdd (xVar 3) (xVar 2))) aNil)) aNil))))))
def F_law_mode : List FA → Wd → Option (FA × Wd) := fnD 4 (B_law_mode)
abbrev st_law_mode : Stmt := top 29
theorem sc_law_mode : FnScope ["_law_deck_here", "_law_acts", "_law_means", "_law_own"] ["_law_deck_here", "_law_acts"] (defScope st_law_mode) := ⟨rfl, rfl, rfl, by decide +kernel, rfl, by decide +kernel, by decide +kernel⟩
theorem ok_law_mode {f : Addr} {fd : FuncData} (F : Fun K "_law_mode" "_law_mode" st_law_mode f fd) (T : Txt mg) (G_law_lot : Kn P w K mg base 3 "_law_lot" ["_law_deck_here", "_law_acts"] (spD 2 (F_law_lot))) (G_law_one : Kn P w K mg base 2 "_law_one" ["_law_deck_here", "_law_items"] (spD 2 (F_law_one))) : FnOk P w K mg base CX0 4 f fd ["_law_deck_here", "_law_acts"] (spD 2 (F_law_mode)) :=
  fn_D F sc_law_mode fun cdv A out s H E hr =>
    (ds_cons (ds_set (i := 2) sc_law_mode.nd rfl (by first | exact Or.inl rfl | exact Or.inr rfl) (d_callD (G_law_lot.rn) (hr.mono (by decide)) (by rfl) G_law_lot.mg G_law_lot.kp G_law_lot.bd (da_cons (d_var (pv 0)) (da_cons (d_var (pv 1)) da_nil)) (aLen_cons (aLen_cons aLen_nil))))
      (ds_cons (ds_set (i := 3) sc_law_mode.nd rfl (by first | exact Or.inl rfl | exact Or.inr rfl) (d_callD (G_law_one.rn) (hr.mono (by decide)) (by rfl) G_law_one.mg G_law_one.kp G_law_one.bd (da_cons (d_var (pv 0)) (da_cons (d_new (f_lst (da_cons (d_tup da_nil aLen_nil) (da_cons (d_var (pv 2)) (da_cons (d_callD (G_law_lot.rn) (hr.mono (by decide)) (by rfl) G_law_lot.mg G_law_lot.kp G_law_lot.bd (da_cons (d_var (pv 0)) (da_cons (d_var (pv 1)) da_nil)) (aLen_cons (aLen_cons aLen_nil))) da_nil))) (aLen_cons (aLen_cons (aLen_cons aLen_nil)))) isl_lst) da_nil)) (aLen_cons (aLen_cons aLen_nil))))
      (ds_one (ds_ret (d_tup (da_cons (d_var (pv 3)) (da_cons (d_callTy call_tuple_of p_tuple (by rfl) T.tuple boot_tuple_ (da_cons (d_sortSet rfl (by rfl) T.sorted (by rfl) T.set (d_op op_addA p_add (d_var (pv 3)) (d_var (pv 2)))) da_nil)) da_nil)) (aLen_cons (aLen_cons aLen_nil)))))))
/-! _law_modes -/
def B_law_modes : S1 := (sSeq (sOwn 3 (xLst aNil))
    (sSeq (sFor (iRange1 (x2 gAdd (xC (.int 1)) (xCallD (F_law_take) (aCons (xVar 0) (aCons (xVar 2) aNil))))) (gN 4) (sSeq (sSet 5 (xCallD (F_law_mode) (aCons (xVar 0) (aCons (xVar 1) aNil))))
    (sIf (tBool (x2 (gIn true) (xVar 5) (xVar 3))) (sAppend 3 (xVar 5)) sNx)))
    (sRet (xN gTuple (aCons (xVar 3) aNil)))))
def F_law_modes : List FA → Wd → Option (FA × Wd) := fnD 6 (B_law_modes)
abbrev st_law_modes : Stmt := top 30
theorem sc_law_modes : FnScope ["_law_deck_here", "_law_acts", "_law_most", "_law_found", "_law_turn", "_law_mode_here"] ["_law_deck_here", "_law_acts", "_law_most"] (defScope st_law_modes) := ⟨rfl, rfl, rfl, by decide +kernel, rfl, by decide +kernel, by decide +kernel⟩
theorem ok_law_modes {f : Addr} {fd : FuncData} (F : Fun K "_law_modes" "_law_modes" st_law_modes f fd) (T : Txt mg) (G_law_take : Kn P w K mg base 1 "_law_take" ["_law_deck_here", "_law_many"] (spD 2 (F_law_take))) (G_law_mode : Kn P w K mg base 4 "_law_mode" ["_law_deck_here", "_law_acts"] (spD 2 (F_law_mode))) : FnOk P w K mg base CX0 5 f fd ["_law_deck_here", "_law_acts", "_law_most"] (spD 3 (F_law_modes)) :=
  fn_D F sc_law_modes fun cdv A out s H E hr =>
    (ds_cons (ds_own (i := 3) sc_law_modes.nd rfl (by first | exact Or.inl rfl | exact Or.inr rfl) (f_lst da_nil aLen_nil))
      (ds_cons (ds_for PassesOwn.never rfl (pi_range1 (by rfl) T.range (da_cons (d_op op_addA p_add d_int (d_callD (G_law_take.rn) (hr.mono (by decide)) (by rfl) G_law_take.mg G_law_take.kp G_law_take.bd (da_cons (d_var (pv 0)) (da_cons (d_var (pv 2)) da_nil)) (aLen_cons (aLen_cons aLen_nil)))) da_nil)) so_range1 (pg_name (i := 4) sc_law_modes.nd rfl (by first | exact Or.inl rfl | exact Or.inr rfl)) gd_name (ds_cons (ds_set (i := 5) sc_law_modes.nd rfl (by first | exact Or.inl rfl | exact Or.inr rfl) (d_callD (G_law_mode.rn) (hr.mono (by decide)) (by rfl) G_law_mode.mg G_law_mode.kp G_law_mode.bd (da_cons (d_var (pv 0)) (da_cons (d_var (pv 1)) da_nil)) (aLen_cons (aLen_cons aLen_nil))))
      (ds_one (ds_if (dt_cmp (op_notInV hr.u66) p_in (d_var (pv 5)) (d_var (pv 3)) (by rfl)) (ds_one (ds_append (i := 3) (pe_bm PySem.F.plainAttrs_list PySem.F.slot_list_append PySem.F.type_list_append mt_append (pv 3) (pa_cons (d_var (pv 5)) pa_nil)))) ds_nil))))
      (ds_one (ds_ret (d_callTy call_tuple_of p_tuple (by rfl) T.tuple boot_tuple_ (da_cons (d_var (pv 3)) da_nil))))))
/-! law -/
noncomputable def B_law (K : PySem.W.Frag) : S1 := (sSeq (sSet 1 (xCallD (F_law_deck K) (aCons (xVar 0) aNil)))
    (sSeq (sFor (iRange1 (xC (.int 8))) (gN 2) (sSeq (sSet 3 (xCallT 1 (F_law_rules) (aCons (xVar 1) (aCons (xC (.int 6)) aNil))))
    (sSeq (sSet 4 (xCallT 1 (F_law_modes) (aCons (xVar 1) (aCons (x2 gIx (xVar 3) (xC (.int 0))) (aCons (xC (.int 12)) aNil)))))
    (sSeq (sSet 5 (xCallP (F_fewest) (aCons (xVar 3) (aCons (xVar 4) aNil))))
    (sSeq (sIf (tOrB (tBool (x2 gNotBl (xCallP (F_serves) (aCons (xVar 3) (aCons (xVar 4) (aCons (xVar 5) aNil)))) (xC (.bool true)))) (tOrB (tBool (x2 gGt (xN gLen (aCons (xVar 5) aNil)) (xN gLen (aCons (xVar 4) aNil)))) (tBool (x2 gNeS (xCallP (F_fewest) (aCons (xVar 3) (aCons (xVar 5) aNil))) (xVar 5))))) (sRet (xC (.bool false))) sNx)
    (sSeq (sSet 6 (xCallP (F_kinds) (aCons (xVar 3) aNil)))
    (sSeq (sIf (tOrB (tBool (x2 gNeS (xLc [9] (iSeq (xVar 5)) (gN 9) (tBool (x2 (gIn true) (xVar 9) (xVar 6))) (xC (.int 1))) (xLst aNil))) (tBool (x2 gNeS (xN gList (aCons (xVar 6) aNil)) (x1 gSortSetN (xVar 6))))) (sRet (xC (.bool false))) sNx)
    (sSeq (sFor (iRange1 (xC (.int 4))) (gN 7) (sSeq (sSet 8 (xLc [9] (iSeq (xSl (xVar 5) (oSome (xC (.int 1))) oNone)) (gN 9) tTrue (xCallT 1 (F_law_one) (aCons (xVar 1) (aCons (xLst (aCons (xCallT 1 (F_law_one) (aCons (xVar 1) (aCons (xVar 5) aNil))) (aCons (xCallT 1 (F_law_one) (aCons (xVar 1) (aCons (xVar 4) aNil))) (aCons (xCallT 1 (F_law_mode) (aCons (xVar 1) (aCons (x2 gIx (xVar 3) (xC (.int 0))) aNil))) aNil)))) aNil)))))
    (sIf (tBool (xCallP (F_serves) (aCons (xVar 3) (aCons (xVar 4) (aCons (xN gTuple (aCons (xVar 8) aNil)) aNil))))) (sRet (xC (.bool false))) sNx)))
    (sFor (iSeq (xVar 4)) (gN 9) (sSeq (sPar 10 11 (aCons (xCallP (F_full) (aCons (xVar 3) (aCons (xVar 9) aNil))) (aCons (xCallT 1 (F_law_one) (aCons (xVar 1) (aCons (xVar 4) aNil))) aNil)))
    (sSeq (sIf (tOrB (tNotB (tBool (xCallP (F_covers) (aCons (xVar 10) (aCons (xVar 9) aNil))))) (tOrB (tBool (x2 gNotBl (xCallP (F_alike) (aCons (xVar 3) (aCons (xVar 10) (aCons (xVar 9) aNil)))) (xC (.bool true)))) (tBool (x2 gNeS (xCallP (F_full) (aCons (xVar 3) (aCons (xVar 10) aNil))) (xVar 10))))) (sRet (xC (.bool false))) sNx)
    (sSeq (sIf (tBool (x2 gNeS (xCallP (F_alike) (aCons (xVar 3) (aCons (xVar 9) (aCons (xVar 11) aNil)))) (x2 gEqS (xCallP (F_full) (aCons (xVar 3) (aCons (xVar 11) aNil))) (xVar 10)))) (sRet (xC (.bool false))) sNx)
    (sSeq (sSet 12 (xCallT 1 (F_law_mode) (aCons (xVar 1) (aCons (x2 gIx (xVar 3) (xC (.int 0))) aNil))))
    (sSeq (sIf (tBool (x2 gNeS (xCallP (F_goes) (aCons (xVar 3) (aCons (xVar 10) (aCons (xVar 12) aNil)))) (xCallP (F_goes) (aCons (xVar 3) (aCons (xVar 9) (aCons (xVar 12) aNil)))))) (sRet (xC (.bool false))) sNx)
    (sIf (tAndB (tBool (xCallP (F_alike) (aCons (xVar 3) (aCons (xVar 9) (aCons (xVar 11) aNil))))) (tBool (x2 gNeS (xCallP (F_goes) (aCons (xVar 3) (aCons (xVar 11) (aCons (xVar 12) aNil)))) (xCallP (F_goes) (aCons (xVar 3) (aCons (xVar 9) (aCons (xVar 12) aNil))))))) (sRet (xC (.bool false))) sNx)))))))))))))))
    (sRet (xC (.bool true)))))
abbrev st_law : Stmt := top 31
theorem sc_law : FnScope ["_law_script", "_law_deck_here", "_law_turn", "_law_rules_here", "_law_modes_here", "_law_told", "_law_every", "_law_again", "_law_drawn", "_law_mode_here", "_law_own", "_law_other", "_law_third"] ["_law_script"] (defScope st_law) := ⟨rfl, rfl, rfl, by decide +kernel, rfl, by decide +kernel, by decide +kernel⟩
theorem ok_law {f : Addr} {fd : FuncData} (F : Fun K "law" "law" st_law f fd) (T : Txt mg) (G_law_deck : Kn P w K mg base 1 "_law_deck" ["_law_script"] (spD 1 (F_law_deck K))) (G_law_rules : Kn P w K mg base 2 "_law_rules" ["_law_deck_here", "_law_most"] (spD 2 (F_law_rules))) (G_law_modes : Kn P w K mg base 5 "_law_modes" ["_law_deck_here", "_law_acts", "_law_most"] (spD 3 (F_law_modes))) (G_fewest : Kn P w K mg base 5 "fewest" ["rules", "modes"] (spP 2 (F_fewest))) (G_serves : Kn P w K mg base 5 "serves" ["rules", "modes", "value"] (spP 3 (F_serves))) (G_kinds : Kn P w K mg base 4 "kinds" ["rules"] (spP 1 (F_kinds))) (G_law_one : Kn P w K mg base 2 "_law_one" ["_law_deck_here", "_law_items"] (spD 2 (F_law_one))) (G_law_mode : Kn P w K mg base 4 "_law_mode" ["_law_deck_here", "_law_acts"] (spD 2 (F_law_mode))) (G_full : Kn P w K mg base 4 "full" ["rules", "mode"] (spP 2 (F_full))) (G_covers : Kn P w K mg base 2 "covers" ["one", "other"] (spP 2 (F_covers))) (G_alike : Kn P w K mg base 3 "alike" ["rules", "one", "other"] (spP 3 (F_alike))) (G_goes : Kn P w K mg base 4 "goes" ["rules", "one", "other"] (spP 3 (F_goes))) : FnG P w K mg base 6 f fd ["_law_script"] (spL 13 (B_law K) K) :=
  fn_L F sc_law fun cdv A out s H E hg hr =>
    (ds_cons (ds_set (i := 1) sc_law.nd rfl (by first | exact Or.inl rfl | exact Or.inr rfl) (d_callD (G_law_deck.rn) (hr.mono (by decide)) (by rfl) G_law_deck.mg G_law_deck.kp G_law_deck.bd (da_cons (d_var (pv 0)) da_nil) (aLen_cons aLen_nil)))
      (ds_cons (ds_for PassesOwn.never rfl (pi_range1 (by rfl) T.range (da_cons d_int da_nil)) so_range1 (pg_name (i := 2) sc_law.nd rfl (by first | exact Or.inl rfl | exact Or.inr rfl)) gd_name (ds_cons (ds_set (i := 3) sc_law.nd rfl (by first | exact Or.inl rfl | exact Or.inr rfl) (d_callT 1 (G_law_rules.rn) (hr.mono (by decide)) (by rfl) G_law_rules.mg G_law_rules.kp G_law_rules.bd (da_cons (d_var (pv 1)) (da_cons d_int da_nil)) (aLen_cons (aLen_cons aLen_nil))))
      (ds_cons (ds_set (i := 4) sc_law.nd rfl (by first | exact Or.inl rfl | exact Or.inr rfl) (d_callT 1 (G_law_modes.rn) (hr.mono (by decide)) (by rfl) G_law_modes.mg G_law_modes.kp G_law_modes.bd (da_cons (d_var (pv 1)) (da_cons (d_ix ix_A p_ix (d_var (pv 3)) d_int (fun _ _ => rfl)) (da_cons d_int da_nil))) (aLen_cons (aLen_cons (aLen_cons aLen_nil)))))
      (ds_cons (ds_set (i := 5) sc_law.nd rfl (by first | exact Or.inl rfl | exact Or.inr rfl) (d_callP (G_fewest.rn) (hr.mono (by decide)) (by rfl) G_fewest.mg G_fewest.kp G_fewest.bd (da_cons (d_var (pv 3)) (da_cons (d_var (pv 4)) da_nil)) (aLen_cons (aLen_cons aLen_nil))))
      (ds_cons (ds_if (dw_or (dt_cmp op_notBl p_notBl (d_callP (G_serves.rn) (hr.mono (by decide)) (by rfl) G_serves.mg G_serves.kp G_serves.bd (da_cons (d_var (pv 3)) (da_cons (d_var (pv 4)) (da_cons (d_var (pv 5)) da_nil))) (aLen_cons (aLen_cons (aLen_cons aLen_nil)))) d_bl (nomark _)) (dw_or (dt_cmp op_gt p_gt (d_callB call_len_seq p_len (by rfl) T.len boot_len_ (da_cons (d_var (pv 5)) da_nil)) (d_callB call_len_seq p_len (by rfl) T.len boot_len_ (da_cons (d_var (pv 4)) da_nil)) (nomark _)) (dw_or1 (dt_cmp (op_neA hr.u64) p_neA (d_callP (G_fewest.rn) (hr.mono (by decide)) (by rfl) G_fewest.mg G_fewest.kp G_fewest.bd (da_cons (d_var (pv 3)) (da_cons (d_var (pv 5)) da_nil)) (aLen_cons (aLen_cons aLen_nil))) (d_var (pv 5)) (nomark _))))).pt (ds_one (ds_ret d_bl)) ds_nil)
      (ds_cons (ds_set (i := 6) sc_law.nd rfl (by first | exact Or.inl rfl | exact Or.inr rfl) (d_callP (G_kinds.rn) (hr.mono (by decide)) (by rfl) G_kinds.mg G_kinds.kp G_kinds.bd (da_cons (d_var (pv 3)) da_nil) (aLen_cons aLen_nil)))
      (ds_cons (ds_if (dw_or (dt_cmp (op_neA hr.u64) p_neA (d_new (f_lc (own := [("_law_mode_here", 9)]) rfl sc_law.nd (pi_seq (d_var (pv 5))) so_seq.ow (blkOk_by (by kernel_rfl)) (fun _ _ _ _ _ => (pg_name (i := 9) sc_law.nd rfl (by first | exact Or.inl rfl | exact Or.inr rfl))) gd_name (by decide) (fun _ _ _ _ _ => (dts_one (dt_cmp (op_notInV hr.u66) p_in (d_var (pv 9)) (d_var (pv 6)) (by rfl)))) (fun _ _ _ _ _ => d_int)) isl_lc) (d_new (f_lst da_nil aLen_nil) isl_lst) (nomark _)) (dw_or1 (dt_cmp (op_neA hr.u64) p_neA (d_new (f_listOf (by rfl) T.list (da_cons (d_var (pv 6)) da_nil)) isl_listOf) (d_sortSetN hr.u64 hr.u100 rfl (by rfl) T.sorted (by rfl) T.set (d_var (pv 6))) (nomark _)))).pt (ds_one (ds_ret d_bl)) ds_nil)
      (ds_cons (ds_for PassesOwn.never rfl (pi_range1 (by rfl) T.range (da_cons d_int da_nil)) so_range1 (pg_name (i := 7) sc_law.nd rfl (by first | exact Or.inl rfl | exact Or.inr rfl)) gd_name (ds_cons (ds_setLc (i := 8) rfl (own := [("_law_mode_here", 9)]) rfl sc_law.nd (pi_seq (d_slice (d_var (pv 5)) (do_some d_int) do_none)) so_seq.ow (blkOk_by (by kernel_rfl)) (fun _ _ _ _ _ => (pg_name (i := 9) sc_law.nd rfl (by first | exact Or.inl rfl | exact Or.inr rfl))) gd_name (by decide) (fun _ _ _ _ _ => dts_nil) (fun _ _ _ _ _ => (d_callT 1 (G_law_one.rn) (hr.mono (by decide)) (by rfl) G_law_one.mg G_law_one.kp G_law_one.bd (da_cons (d_var (pv 1)) (da_cons (d_new (f_lst (da_cons (d_callT 1 (G_law_one.rn) (hr.mono (by decide)) (by rfl) G_law_one.mg G_law_one.kp G_law_one.bd (da_cons (d_var (pv 1)) (da_cons (d_var (pv 5)) da_nil)) (aLen_cons (aLen_cons aLen_nil))) (da_cons (d_callT 1 (G_law_one.rn) (hr.mono (by decide)) (by rfl) G_law_one.mg G_law_one.kp G_law_one.bd (da_cons (d_var (pv 1)) (da_cons (d_var (pv 4)) da_nil)) (aLen_cons (aLen_cons aLen_nil))) (da_cons (d_callT 1 (G_law_mode.rn) (hr.mono (by decide)) (by rfl) G_law_mode.mg G_law_mode.kp G_law_mode.bd (da_cons (d_var (pv 1)) (da_cons (d_ix ix_A p_ix (d_var (pv 3)) d_int (fun _ _ => rfl)) da_nil)) (aLen_cons (aLen_cons aLen_nil))) da_nil))) (aLen_cons (aLen_cons (aLen_cons aLen_nil)))) isl_lst) da_nil)) (aLen_cons (aLen_cons aLen_nil)))) rfl (sw_true rfl rfl rfl (by decide +kernel)))
      (ds_one (ds_if (dt_val (d_callP (G_serves.rn) (hr.mono (by decide)) (by rfl) G_serves.mg G_serves.kp G_serves.bd (da_cons (d_var (pv 3)) (da_cons (d_var (pv 4)) (da_cons (d_callTy call_tuple_of p_tuple (by rfl) T.tuple boot_tuple_ (da_cons (d_var (pv 8)) da_nil)) da_nil))) (aLen_cons (aLen_cons (aLen_cons aLen_nil))))) (ds_one (ds_ret d_bl)) ds_nil))))
      (ds_one (ds_for PassesOwn.never rfl (pi_seq (d_var (pv 4))) so_seq (pg_name (i := 9) sc_law.nd rfl (by first | exact Or.inl rfl | exact Or.inr rfl)) gd_name (ds_cons (ds_par (i := 10) (j := 11) rfl sc_law.nd rfl rfl (by decide) rfl rfl (da_cons (d_callP (G_full.rn) (hr.mono (by decide)) (by rfl) G_full.mg G_full.kp G_full.bd (da_cons (d_var (pv 3)) (da_cons (d_var (pv 9)) da_nil)) (aLen_cons (aLen_cons aLen_nil))) (da_cons (d_callT 1 (G_law_one.rn) (hr.mono (by decide)) (by rfl) G_law_one.mg G_law_one.kp G_law_one.bd (da_cons (d_var (pv 1)) (da_cons (d_var (pv 4)) da_nil)) (aLen_cons (aLen_cons aLen_nil))) da_nil)) rfl)
      (ds_cons (ds_if (dw_or (dt_not (dt_val (d_callP (G_covers.rn) (hr.mono (by decide)) (by rfl) G_covers.mg G_covers.kp G_covers.bd (da_cons (d_var (pv 10)) (da_cons (d_var (pv 9)) da_nil)) (aLen_cons (aLen_cons aLen_nil))))) (dw_or (dt_cmp op_notBl p_notBl (d_callP (G_alike.rn) (hr.mono (by decide)) (by rfl) G_alike.mg G_alike.kp G_alike.bd (da_cons (d_var (pv 3)) (da_cons (d_var (pv 10)) (da_cons (d_var (pv 9)) da_nil))) (aLen_cons (aLen_cons (aLen_cons aLen_nil)))) d_bl (nomark _)) (dw_or1 (dt_cmp (op_neA hr.u64) p_neA (d_callP (G_full.rn) (hr.mono (by decide)) (by rfl) G_full.mg G_full.kp G_full.bd (da_cons (d_var (pv 3)) (da_cons (d_var (pv 10)) da_nil)) (aLen_cons (aLen_cons aLen_nil))) (d_var (pv 10)) (nomark _))))).pt (ds_one (ds_ret d_bl)) ds_nil)
      (ds_cons (ds_if (dt_cmp (op_neA hr.u64) p_neA (d_callP (G_alike.rn) (hr.mono (by decide)) (by rfl) G_alike.mg G_alike.kp G_alike.bd (da_cons (d_var (pv 3)) (da_cons (d_var (pv 9)) (da_cons (d_var (pv 11)) da_nil))) (aLen_cons (aLen_cons (aLen_cons aLen_nil)))) (d_cmp (op_eqA hr.u64) p_eqA (d_callP (G_full.rn) (hr.mono (by decide)) (by rfl) G_full.mg G_full.kp G_full.bd (da_cons (d_var (pv 3)) (da_cons (d_var (pv 11)) da_nil)) (aLen_cons (aLen_cons aLen_nil))) (d_var (pv 10)) (nomark _)) (nomark _)) (ds_one (ds_ret d_bl)) ds_nil)
      (ds_cons (ds_set (i := 12) sc_law.nd rfl (by first | exact Or.inl rfl | exact Or.inr rfl) (d_callT 1 (G_law_mode.rn) (hr.mono (by decide)) (by rfl) G_law_mode.mg G_law_mode.kp G_law_mode.bd (da_cons (d_var (pv 1)) (da_cons (d_ix ix_A p_ix (d_var (pv 3)) d_int (fun _ _ => rfl)) da_nil)) (aLen_cons (aLen_cons aLen_nil))))
      (ds_cons (ds_if (dt_cmp (op_neA hr.u64) p_neA (d_callP (G_goes.rn) (hr.mono (by decide)) (by rfl) G_goes.mg G_goes.kp G_goes.bd (da_cons (d_var (pv 3)) (da_cons (d_var (pv 10)) (da_cons (d_var (pv 12)) da_nil))) (aLen_cons (aLen_cons (aLen_cons aLen_nil)))) (d_callP (G_goes.rn) (hr.mono (by decide)) (by rfl) G_goes.mg G_goes.kp G_goes.bd (da_cons (d_var (pv 3)) (da_cons (d_var (pv 9)) (da_cons (d_var (pv 12)) da_nil))) (aLen_cons (aLen_cons (aLen_cons aLen_nil)))) (nomark _)) (ds_one (ds_ret d_bl)) ds_nil)
      (ds_one (ds_if (dw_and (dt_val (d_callP (G_alike.rn) (hr.mono (by decide)) (by rfl) G_alike.mg G_alike.kp G_alike.bd (da_cons (d_var (pv 3)) (da_cons (d_var (pv 9)) (da_cons (d_var (pv 11)) da_nil))) (aLen_cons (aLen_cons (aLen_cons aLen_nil))))) (dw_and1 (dt_cmp (op_neA hr.u64) p_neA (d_callP (G_goes.rn) (hr.mono (by decide)) (by rfl) G_goes.mg G_goes.kp G_goes.bd (da_cons (d_var (pv 3)) (da_cons (d_var (pv 11)) (da_cons (d_var (pv 12)) da_nil))) (aLen_cons (aLen_cons (aLen_cons aLen_nil)))) (d_callP (G_goes.rn) (hr.mono (by decide)) (by rfl) G_goes.mg G_goes.kp G_goes.bd (da_cons (d_var (pv 3)) (da_cons (d_var (pv 9)) (da_cons (d_var (pv 12)) da_nil))) (aLen_cons (aLen_cons (aLen_cons aLen_nil)))) (nomark _)))).pt (ds_one (ds_ret d_bl)) ds_nil)))))))))))))))))
      (ds_one (ds_ret d_bl))))
end
theorem all_mk {l : PySem.W.OpenLaw} {w : World} {K : PySem.W.Frag} {h : Heap} {mg : Str → Option Value} {fa : Addr} (X : K.In h) (G : h.Ns mainGlobals mg) (hfa : mg "law" = some (.ref fa))
    {f1 : Addr} {od1 an1 : Option Addr} {sl1 : Array (Option Value)} {oc1 kV1 dc1 pm1 cd1 ct1 : Value}
    (a1 : PySem.W.nsIn K mainGlobals "is_number" = some (some (.ref f1))) (l1 : K.lookup f1 = some ⟨oc1, od1, .func (PySem.W.fnOf "is_number" "is_number" (defArgs st_is_number) (defBody st_is_number) (defScope st_is_number) .none kV1 dc1 pm1 an1 cd1 ct1), sl1⟩)
    (c1 : PySem.W.codeIn K cd1 "is_number" = true) (k1 : PySem.W.keepIn K (.ref f1) = true)
    {f2 : Addr} {od2 an2 : Option Addr} {sl2 : Array (Option Value)} {oc2 kV2 dc2 pm2 cd2 ct2 : Value}
    (a2 : PySem.W.nsIn K mainGlobals "is_pair" = some (some (.ref f2))) (l2 : K.lookup f2 = some ⟨oc2, od2, .func (PySem.W.fnOf "is_pair" "is_pair" (defArgs st_is_pair) (defBody st_is_pair) (defScope st_is_pair) .none kV2 dc2 pm2 an2 cd2 ct2), sl2⟩)
    (c2 : PySem.W.codeIn K cd2 "is_pair" = true) (k2 : PySem.W.keepIn K (.ref f2) = true)
    {f3 : Addr} {od3 an3 : Option Addr} {sl3 : Array (Option Value)} {oc3 kV3 dc3 pm3 cd3 ct3 : Value}
    (a3 : PySem.W.nsIn K mainGlobals "ascends" = some (some (.ref f3))) (l3 : K.lookup f3 = some ⟨oc3, od3, .func (PySem.W.fnOf "ascends" "ascends" (defArgs st_ascends) (defBody st_ascends) (defScope st_ascends) .none kV3 dc3 pm3 an3 cd3 ct3), sl3⟩)
    (c3 : PySem.W.codeIn K cd3 "ascends" = true) (k3 : PySem.W.keepIn K (.ref f3) = true)
    {f4 : Addr} {od4 an4 : Option Addr} {sl4 : Array (Option Value)} {oc4 kV4 dc4 pm4 cd4 ct4 : Value}
    (a4 : PySem.W.nsIn K mainGlobals "is_lot" = some (some (.ref f4))) (l4 : K.lookup f4 = some ⟨oc4, od4, .func (PySem.W.fnOf "is_lot" "is_lot" (defArgs st_is_lot) (defBody st_is_lot) (defScope st_is_lot) .none kV4 dc4 pm4 an4 cd4 ct4), sl4⟩)
    (c4 : PySem.W.codeIn K cd4 "is_lot" = true) (k4 : PySem.W.keepIn K (.ref f4) = true)
    {f5 : Addr} {od5 an5 : Option Addr} {sl5 : Array (Option Value)} {oc5 kV5 dc5 pm5 cd5 ct5 : Value}
    (a5 : PySem.W.nsIn K mainGlobals "has_all" = some (some (.ref f5))) (l5 : K.lookup f5 = some ⟨oc5, od5, .func (PySem.W.fnOf "has_all" "has_all" (defArgs st_has_all) (defBody st_has_all) (defScope st_has_all) .none kV5 dc5 pm5 an5 cd5 ct5), sl5⟩)
    (c5 : PySem.W.codeIn K cd5 "has_all" = true) (k5 : PySem.W.keepIn K (.ref f5) = true)
    {f6 : Addr} {od6 an6 : Option Addr} {sl6 : Array (Option Value)} {oc6 kV6 dc6 pm6 cd6 ct6 : Value}
    (a6 : PySem.W.nsIn K mainGlobals "against" = some (some (.ref f6))) (l6 : K.lookup f6 = some ⟨oc6, od6, .func (PySem.W.fnOf "against" "against" (defArgs st_against) (defBody st_against) (defScope st_against) .none kV6 dc6 pm6 an6 cd6 ct6), sl6⟩)
    (c6 : PySem.W.codeIn K cd6 "against" = true) (k6 : PySem.W.keepIn K (.ref f6) = true)
    {f7 : Addr} {od7 an7 : Option Addr} {sl7 : Array (Option Value)} {oc7 kV7 dc7 pm7 cd7 ct7 : Value}
    (a7 : PySem.W.nsIn K mainGlobals "is_against" = some (some (.ref f7))) (l7 : K.lookup f7 = some ⟨oc7, od7, .func (PySem.W.fnOf "is_against" "is_against" (defArgs st_is_against) (defBody st_is_against) (defScope st_is_against) .none kV7 dc7 pm7 an7 cd7 ct7), sl7⟩)
    (c7 : PySem.W.codeIn K cd7 "is_against" = true) (k7 : PySem.W.keepIn K (.ref f7) = true)
    {f8 : Addr} {od8 an8 : Option Addr} {sl8 : Array (Option Value)} {oc8 kV8 dc8 pm8 cd8 ct8 : Value}
    (a8 : PySem.W.nsIn K mainGlobals "is_mode" = some (some (.ref f8))) (l8 : K.lookup f8 = some ⟨oc8, od8, .func (PySem.W.fnOf "is_mode" "is_mode" (defArgs st_is_mode) (defBody st_is_mode) (defScope st_is_mode) .none kV8 dc8 pm8 an8 cd8 ct8), sl8⟩)
    (c8 : PySem.W.codeIn K cd8 "is_mode" = true) (k8 : PySem.W.keepIn K (.ref f8) = true)
    {f9 : Addr} {od9 an9 : Option Addr} {sl9 : Array (Option Value)} {oc9 kV9 dc9 pm9 cd9 ct9 : Value}
    (a9 : PySem.W.nsIn K mainGlobals "covers" = some (some (.ref f9))) (l9 : K.lookup f9 = some ⟨oc9, od9, .func (PySem.W.fnOf "covers" "covers" (defArgs st_covers) (defBody st_covers) (defScope st_covers) .none kV9 dc9 pm9 an9 cd9 ct9), sl9⟩)
    (c9 : PySem.W.codeIn K cd9 "covers" = true) (k9 : PySem.W.keepIn K (.ref f9) = true)
    {f10 : Addr} {od10 an10 : Option Addr} {sl10 : Array (Option Value)} {oc10 kV10 dc10 pm10 cd10 ct10 : Value}
    (a10 : PySem.W.nsIn K mainGlobals "goes" = some (some (.ref f10))) (l10 : K.lookup f10 = some ⟨oc10, od10, .func (PySem.W.fnOf "goes" "goes" (defArgs st_goes) (defBody st_goes) (defScope st_goes) .none kV10 dc10 pm10 an10 cd10 ct10), sl10⟩)
    (c10 : PySem.W.codeIn K cd10 "goes" = true) (k10 : PySem.W.keepIn K (.ref f10) = true)
    {f11 : Addr} {od11 an11 : Option Addr} {sl11 : Array (Option Value)} {oc11 kV11 dc11 pm11 cd11 ct11 : Value}
    (a11 : PySem.W.nsIn K mainGlobals "hinders" = some (some (.ref f11))) (l11 : K.lookup f11 = some ⟨oc11, od11, .func (PySem.W.fnOf "hinders" "hinders" (defArgs st_hinders) (defBody st_hinders) (defScope st_hinders) .none kV11 dc11 pm11 an11 cd11 ct11), sl11⟩)
    (c11 : PySem.W.codeIn K cd11 "hinders" = true) (k11 : PySem.W.keepIn K (.ref f11) = true)
    {f12 : Addr} {od12 an12 : Option Addr} {sl12 : Array (Option Value)} {oc12 kV12 dc12 pm12 cd12 ct12 : Value}
    (a12 : PySem.W.nsIn K mainGlobals "full" = some (some (.ref f12))) (l12 : K.lookup f12 = some ⟨oc12, od12, .func (PySem.W.fnOf "full" "full" (defArgs st_full) (defBody st_full) (defScope st_full) .none kV12 dc12 pm12 an12 cd12 ct12), sl12⟩)
    (c12 : PySem.W.codeIn K cd12 "full" = true) (k12 : PySem.W.keepIn K (.ref f12) = true)
    {f13 : Addr} {od13 an13 : Option Addr} {sl13 : Array (Option Value)} {oc13 kV13 dc13 pm13 cd13 ct13 : Value}
    (a13 : PySem.W.nsIn K mainGlobals "widened" = some (some (.ref f13))) (l13 : K.lookup f13 = some ⟨oc13, od13, .func (PySem.W.fnOf "widened" "widened" (defArgs st_widened) (defBody st_widened) (defScope st_widened) .none kV13 dc13 pm13 an13 cd13 ct13), sl13⟩)
    (c13 : PySem.W.codeIn K cd13 "widened" = true) (k13 : PySem.W.keepIn K (.ref f13) = true)
    {f14 : Addr} {od14 an14 : Option Addr} {sl14 : Array (Option Value)} {oc14 kV14 dc14 pm14 cd14 ct14 : Value}
    (a14 : PySem.W.nsIn K mainGlobals "alike" = some (some (.ref f14))) (l14 : K.lookup f14 = some ⟨oc14, od14, .func (PySem.W.fnOf "alike" "alike" (defArgs st_alike) (defBody st_alike) (defScope st_alike) .none kV14 dc14 pm14 an14 cd14 ct14), sl14⟩)
    (c14 : PySem.W.codeIn K cd14 "alike" = true) (k14 : PySem.W.keepIn K (.ref f14) = true)
    {f15 : Addr} {od15 an15 : Option Addr} {sl15 : Array (Option Value)} {oc15 kV15 dc15 pm15 cd15 ct15 : Value}
    (a15 : PySem.W.nsIn K mainGlobals "kinds" = some (some (.ref f15))) (l15 : K.lookup f15 = some ⟨oc15, od15, .func (PySem.W.fnOf "kinds" "kinds" (defArgs st_kinds) (defBody st_kinds) (defScope st_kinds) .none kV15 dc15 pm15 an15 cd15 ct15), sl15⟩)
    (c15 : PySem.W.codeIn K cd15 "kinds" = true) (k15 : PySem.W.keepIn K (.ref f15) = true)
    {f16 : Addr} {od16 an16 : Option Addr} {sl16 : Array (Option Value)} {oc16 kV16 dc16 pm16 cd16 ct16 : Value}
    (a16 : PySem.W.nsIn K mainGlobals "all_lots" = some (some (.ref f16))) (l16 : K.lookup f16 = some ⟨oc16, od16, .func (PySem.W.fnOf "all_lots" "all_lots" (defArgs st_all_lots) (defBody st_all_lots) (defScope st_all_lots) .none kV16 dc16 pm16 an16 cd16 ct16), sl16⟩)
    (c16 : PySem.W.codeIn K cd16 "all_lots" = true) (k16 : PySem.W.keepIn K (.ref f16) = true)
    {f17 : Addr} {od17 an17 : Option Addr} {sl17 : Array (Option Value)} {oc17 kV17 dc17 pm17 cd17 ct17 : Value}
    (a17 : PySem.W.nsIn K mainGlobals "serves" = some (some (.ref f17))) (l17 : K.lookup f17 = some ⟨oc17, od17, .func (PySem.W.fnOf "serves" "serves" (defArgs st_serves) (defBody st_serves) (defScope st_serves) .none kV17 dc17 pm17 an17 cd17 ct17), sl17⟩)
    (c17 : PySem.W.codeIn K cd17 "serves" = true) (k17 : PySem.W.keepIn K (.ref f17) = true)
    {f18 : Addr} {od18 an18 : Option Addr} {sl18 : Array (Option Value)} {oc18 kV18 dc18 pm18 cd18 ct18 : Value}
    (a18 : PySem.W.nsIn K mainGlobals "is_served" = some (some (.ref f18))) (l18 : K.lookup f18 = some ⟨oc18, od18, .func (PySem.W.fnOf "is_served" "is_served" (defArgs st_is_served) (defBody st_is_served) (defScope st_is_served) .none kV18 dc18 pm18 an18 cd18 ct18), sl18⟩)
    (c18 : PySem.W.codeIn K cd18 "is_served" = true) (k18 : PySem.W.keepIn K (.ref f18) = true)
    {f19 : Addr} {od19 an19 : Option Addr} {sl19 : Array (Option Value)} {oc19 kV19 dc19 pm19 cd19 ct19 : Value}
    (a19 : PySem.W.nsIn K mainGlobals "fewest" = some (some (.ref f19))) (l19 : K.lookup f19 = some ⟨oc19, od19, .func (PySem.W.fnOf "fewest" "fewest" (defArgs st_fewest) (defBody st_fewest) (defScope st_fewest) .none kV19 dc19 pm19 an19 cd19 ct19), sl19⟩)
    (c19 : PySem.W.codeIn K cd19 "fewest" = true) (k19 : PySem.W.keepIn K (.ref f19) = true)
    {f20 : Addr} {od20 an20 : Option Addr} {sl20 : Array (Option Value)} {oc20 kV20 dc20 pm20 cd20 ct20 : Value}
    (a20 : PySem.W.nsIn K mainGlobals "_law_deck" = some (some (.ref f20))) (l20 : K.lookup f20 = some ⟨oc20, od20, .func (PySem.W.fnOf "_law_deck" "_law_deck" (defArgs st_law_deck) (defBody st_law_deck) (defScope st_law_deck) .none kV20 dc20 pm20 an20 cd20 ct20), sl20⟩)
    (c20 : PySem.W.codeIn K cd20 "_law_deck" = true) (k20 : PySem.W.keepIn K (.ref f20) = true)
    {f21 : Addr} {od21 an21 : Option Addr} {sl21 : Array (Option Value)} {oc21 kV21 dc21 pm21 cd21 ct21 : Value}
    (a21 : PySem.W.nsIn K mainGlobals "_law_take" = some (some (.ref f21))) (l21 : K.lookup f21 = some ⟨oc21, od21, .func (PySem.W.fnOf "_law_take" "_law_take" (defArgs st_law_take) (defBody st_law_take) (defScope st_law_take) .none kV21 dc21 pm21 an21 cd21 ct21), sl21⟩)
    (c21 : PySem.W.codeIn K cd21 "_law_take" = true) (k21 : PySem.W.keepIn K (.ref f21) = true)
    {f22 : Addr} {od22 an22 : Option Addr} {sl22 : Array (Option Value)} {oc22 kV22 dc22 pm22 cd22 ct22 : Value}
    (a22 : PySem.W.nsIn K mainGlobals "_law_one" = some (some (.ref f22))) (l22 : K.lookup f22 = some ⟨oc22, od22, .func (PySem.W.fnOf "_law_one" "_law_one" (defArgs st_law_one) (defBody st_law_one) (defScope st_law_one) .none kV22 dc22 pm22 an22 cd22 ct22), sl22⟩)
    (c22 : PySem.W.codeIn K cd22 "_law_one" = true) (k22 : PySem.W.keepIn K (.ref f22) = true)
    {f23 : Addr} {od23 an23 : Option Addr} {sl23 : Array (Option Value)} {oc23 kV23 dc23 pm23 cd23 ct23 : Value}
    (a23 : PySem.W.nsIn K mainGlobals "_law_rules" = some (some (.ref f23))) (l23 : K.lookup f23 = some ⟨oc23, od23, .func (PySem.W.fnOf "_law_rules" "_law_rules" (defArgs st_law_rules) (defBody st_law_rules) (defScope st_law_rules) .none kV23 dc23 pm23 an23 cd23 ct23), sl23⟩)
    (c23 : PySem.W.codeIn K cd23 "_law_rules" = true) (k23 : PySem.W.keepIn K (.ref f23) = true)
    {f24 : Addr} {od24 an24 : Option Addr} {sl24 : Array (Option Value)} {oc24 kV24 dc24 pm24 cd24 ct24 : Value}
    (a24 : PySem.W.nsIn K mainGlobals "_law_lot" = some (some (.ref f24))) (l24 : K.lookup f24 = some ⟨oc24, od24, .func (PySem.W.fnOf "_law_lot" "_law_lot" (defArgs st_law_lot) (defBody st_law_lot) (defScope st_law_lot) .none kV24 dc24 pm24 an24 cd24 ct24), sl24⟩)
    (c24 : PySem.W.codeIn K cd24 "_law_lot" = true) (k24 : PySem.W.keepIn K (.ref f24) = true)
    {f25 : Addr} {od25 an25 : Option Addr} {sl25 : Array (Option Value)} {oc25 kV25 dc25 pm25 cd25 ct25 : Value}
    (a25 : PySem.W.nsIn K mainGlobals "_law_mode" = some (some (.ref f25))) (l25 : K.lookup f25 = some ⟨oc25, od25, .func (PySem.W.fnOf "_law_mode" "_law_mode" (defArgs st_law_mode) (defBody st_law_mode) (defScope st_law_mode) .none kV25 dc25 pm25 an25 cd25 ct25), sl25⟩)
    (c25 : PySem.W.codeIn K cd25 "_law_mode" = true) (k25 : PySem.W.keepIn K (.ref f25) = true)
    {f26 : Addr} {od26 an26 : Option Addr} {sl26 : Array (Option Value)} {oc26 kV26 dc26 pm26 cd26 ct26 : Value}
    (a26 : PySem.W.nsIn K mainGlobals "_law_modes" = some (some (.ref f26))) (l26 : K.lookup f26 = some ⟨oc26, od26, .func (PySem.W.fnOf "_law_modes" "_law_modes" (defArgs st_law_modes) (defBody st_law_modes) (defScope st_law_modes) .none kV26 dc26 pm26 an26 cd26 ct26), sl26⟩)
    (c26 : PySem.W.codeIn K cd26 "_law_modes" = true) (k26 : PySem.W.keepIn K (.ref f26) = true)
    {f27 : Addr} {od27 an27 : Option Addr} {sl27 : Array (Option Value)} {oc27 kV27 dc27 pm27 cd27 ct27 : Value}
    (a27 : PySem.W.nsIn K mainGlobals "law" = some (some (.ref f27))) (l27 : K.lookup f27 = some ⟨oc27, od27, .func (PySem.W.fnOf "law" "law" (defArgs st_law) (defBody st_law) (defScope st_law) .none kV27 dc27 pm27 an27 cd27 ct27), sl27⟩)
    (c27 : PySem.W.codeIn K cd27 "law" = true) (k27 : PySem.W.keepIn K (.ref f27) = true)
    (z_abs : PySem.W.nsIn K mainGlobals "abs" = some none)
    (z_all : PySem.W.nsIn K mainGlobals "all" = some none)
    (z_any : PySem.W.nsIn K mainGlobals "any" = some none)
    (z_bool : PySem.W.nsIn K mainGlobals "bool" = some none)
    (z_int : PySem.W.nsIn K mainGlobals "int" = some none)
    (z_isinstance : PySem.W.nsIn K mainGlobals "isinstance" = some none)
    (z_len : PySem.W.nsIn K mainGlobals "len" = some none)
    (z_list : PySem.W.nsIn K mainGlobals "list" = some none)
    (z_max : PySem.W.nsIn K mainGlobals "max" = some none)
    (z_min : PySem.W.nsIn K mainGlobals "min" = some none)
    (z_range : PySem.W.nsIn K mainGlobals "range" = some none)
    (z_set : PySem.W.nsIn K mainGlobals "set" = some none)
    (z_sorted : PySem.W.nsIn K mainGlobals "sorted" = some none)
    (z_tuple : PySem.W.nsIn K mainGlobals "tuple" = some none)
    : ∃ fd : FuncData, (∀ (s : Shared) (v : Value), BindsTo s fd ⟨[v], []⟩ [("_law_script", v)]) ∧ ∀ base : Heap, K.In base → base.Ns mainGlobals mg → FnG l.prog w K mg base 6 fa fd ["_law_script"] (spL 13 (B_law K) K) := by
  have e := hfa.symm.trans (PySem.W.mg_of X G a27)
  cases e
  have T : Txt mg := ⟨PySem.W.mg_none_of X G z_abs, PySem.W.mg_none_of X G z_all, PySem.W.mg_none_of X G z_any, PySem.W.mg_none_of X G z_bool, PySem.W.mg_none_of X G z_int, PySem.W.mg_none_of X G z_isinstance, PySem.W.mg_none_of X G z_len, PySem.W.mg_none_of X G z_list, PySem.W.mg_none_of X G z_max, PySem.W.mg_none_of X G z_min, PySem.W.mg_none_of X G z_range, PySem.W.mg_none_of X G z_set, PySem.W.mg_none_of X G z_sorted, PySem.W.mg_none_of X G z_tuple⟩
  refine ⟨PySem.W.fnOf "law" "law" (defArgs st_law) (defBody st_law) (defScope st_law) .none kV27 dc27 pm27 an27 cd27 ct27, fun s v => .of_eq rfl, fun base _ _ => ?_⟩
  have H_is_number := fun_mk (st := st_is_number) l1 c1 k1
  have G_is_number : Kn l.prog w K mg base 1 "is_number" ["value", "least", "most"] (spP 3 (F_is_number)) := ⟨_, _, ok_is_number H_is_number T , PySem.W.mg_of X G a1, k1, H_is_number.binds (ps := ["value", "least", "most"]) fun _ _ _ _ _ _ us hl => match us, hl with | [_, _, _], _ => rfl⟩
  have H_is_pair := fun_mk (st := st_is_pair) l2 c2 k2
  have G_is_pair : Kn l.prog w K mg base 1 "is_pair" ["value"] (spP 1 (F_is_pair)) := ⟨_, _, ok_is_pair H_is_pair T , PySem.W.mg_of X G a2, k2, H_is_pair.binds (ps := ["value"]) fun _ _ _ _ _ _ us hl => match us, hl with | [_], _ => rfl⟩
  have H_ascends := fun_mk (st := st_ascends) l3 c3 k3
  have G_ascends : Kn l.prog w K mg base 1 "ascends" ["row"] (spP 1 (F_ascends)) := ⟨_, _, ok_ascends H_ascends T , PySem.W.mg_of X G a3, k3, H_ascends.binds (ps := ["row"]) fun _ _ _ _ _ _ us hl => match us, hl with | [_], _ => rfl⟩
  have H_is_lot := fun_mk (st := st_is_lot) l4 c4 k4
  have G_is_lot : Kn l.prog w K mg base 2 "is_lot" ["acts", "value"] (spP 2 (F_is_lot)) := ⟨_, _, ok_is_lot H_is_lot T G_is_number G_ascends, PySem.W.mg_of X G a4, k4, H_is_lot.binds (ps := ["acts", "value"]) fun _ _ _ _ _ _ us hl => match us, hl with | [_, _], _ => rfl⟩
  have H_has_all := fun_mk (st := st_has_all) l5 c5 k5
  have G_has_all : Kn l.prog w K mg base 1 "has_all" ["lot", "other"] (spP 2 (F_has_all)) := ⟨_, _, ok_has_all H_has_all T , PySem.W.mg_of X G a5, k5, H_has_all.binds (ps := ["lot", "other"]) fun _ _ _ _ _ _ us hl => match us, hl with | [_, _], _ => rfl⟩
  have H_is_against := fun_mk (st := st_is_against) l7 c7 k7
  have G_is_against : Kn l.prog w K mg base 1 "is_against" ["rules", "act", "lot"] (spP 3 (F_is_against)) := ⟨_, _, ok_is_against H_is_against T , PySem.W.mg_of X G a7, k7, H_is_against.binds (ps := ["rules", "act", "lot"]) fun _ _ _ _ _ _ us hl => match us, hl with | [_, _, _], _ => rfl⟩
  have H_against := fun_mk (st := st_against) l6 c6 k6
  have G_against : Kn l.prog w K mg base 2 "against" ["rules", "lot"] (spP 2 (F_against)) := ⟨_, _, ok_against H_against T G_is_against, PySem.W.mg_of X G a6, k6, H_against.binds (ps := ["rules", "lot"]) fun _ _ _ _ _ _ us hl => match us, hl with | [_, _], _ => rfl⟩
  have H_is_mode := fun_mk (st := st_is_mode) l8 c8 k8
  have G_is_mode : Kn l.prog w K mg base 3 "is_mode" ["rules", "value"] (spP 2 (F_is_mode)) := ⟨_, _, ok_is_mode H_is_mode T G_is_pair G_is_lot G_has_all, PySem.W.mg_of X G a8, k8, H_is_mode.binds (ps := ["rules", "value"]) fun _ _ _ _ _ _ us hl => match us, hl with | [_, _], _ => rfl⟩
  have H_covers := fun_mk (st := st_covers) l9 c9 k9
  have G_covers : Kn l.prog w K mg base 2 "covers" ["one", "other"] (spP 2 (F_covers)) := ⟨_, _, ok_covers H_covers T G_has_all, PySem.W.mg_of X G a9, k9, H_covers.binds (ps := ["one", "other"]) fun _ _ _ _ _ _ us hl => match us, hl with | [_, _], _ => rfl⟩
  have H_hinders := fun_mk (st := st_hinders) l11 c11 k11
  have G_hinders : Kn l.prog w K mg base 3 "hinders" ["rules", "one", "other"] (spP 3 (F_hinders)) := ⟨_, _, ok_hinders H_hinders T G_against, PySem.W.mg_of X G a11, k11, H_hinders.binds (ps := ["rules", "one", "other"]) fun _ _ _ _ _ _ us hl => match us, hl with | [_, _, _], _ => rfl⟩
  have H_goes := fun_mk (st := st_goes) l10 c10 k10
  have G_goes : Kn l.prog w K mg base 4 "goes" ["rules", "one", "other"] (spP 3 (F_goes)) := ⟨_, _, ok_goes H_goes T G_hinders, PySem.W.mg_of X G a10, k10, H_goes.binds (ps := ["rules", "one", "other"]) fun _ _ _ _ _ _ us hl => match us, hl with | [_, _, _], _ => rfl⟩
  have H_widened := fun_mk (st := st_widened) l13 c13 k13
  have G_widened : Kn l.prog w K mg base 3 "widened" ["rules", "lot"] (spP 2 (F_widened)) := ⟨_, _, ok_widened H_widened T G_against G_has_all, PySem.W.mg_of X G a13, k13, H_widened.binds (ps := ["rules", "lot"]) fun _ _ _ _ _ _ us hl => match us, hl with | [_, _], _ => rfl⟩
  have H_full := fun_mk (st := st_full) l12 c12 k12
  have G_full : Kn l.prog w K mg base 4 "full" ["rules", "mode"] (spP 2 (F_full)) := ⟨_, _, ok_full H_full T G_widened, PySem.W.mg_of X G a12, k12, H_full.binds (ps := ["rules", "mode"]) fun _ _ _ _ _ _ us hl => match us, hl with | [_, _], _ => rfl⟩
  have H_alike := fun_mk (st := st_alike) l14 c14 k14
  have G_alike : Kn l.prog w K mg base 3 "alike" ["rules", "one", "other"] (spP 3 (F_alike)) := ⟨_, _, ok_alike H_alike T G_against, PySem.W.mg_of X G a14, k14, H_alike.binds (ps := ["rules", "one", "other"]) fun _ _ _ _ _ _ us hl => match us, hl with | [_, _, _], _ => rfl⟩
  have H_all_lots := fun_mk (st := st_all_lots) l16 c16 k16
  have G_all_lots : Kn l.prog w K mg base 1 "all_lots" ["acts"] (spP 1 (F_all_lots)) := ⟨_, _, ok_all_lots H_all_lots T , PySem.W.mg_of X G a16, k16, H_all_lots.binds (ps := ["acts"]) fun _ _ _ _ _ _ us hl => match us, hl with | [_], _ => rfl⟩
  have H_kinds := fun_mk (st := st_kinds) l15 c15 k15
  have G_kinds : Kn l.prog w K mg base 4 "kinds" ["rules"] (spP 1 (F_kinds)) := ⟨_, _, ok_kinds H_kinds T G_widened G_all_lots G_has_all, PySem.W.mg_of X G a15, k15, H_kinds.binds (ps := ["rules"]) fun _ _ _ _ _ _ us hl => match us, hl with | [_], _ => rfl⟩
  have H_is_served := fun_mk (st := st_is_served) l18 c18 k18
  have G_is_served : Kn l.prog w K mg base 4 "is_served" ["rules", "mode", "held"] (spP 3 (F_is_served)) := ⟨_, _, ok_is_served H_is_served T G_covers G_alike, PySem.W.mg_of X G a18, k18, H_is_served.binds (ps := ["rules", "mode", "held"]) fun _ _ _ _ _ _ us hl => match us, hl with | [_, _, _], _ => rfl⟩
  have H_serves := fun_mk (st := st_serves) l17 c17 k17
  have G_serves : Kn l.prog w K mg base 5 "serves" ["rules", "modes", "value"] (spP 3 (F_serves)) := ⟨_, _, ok_serves H_serves T G_is_mode G_is_served, PySem.W.mg_of X G a17, k17, H_serves.binds (ps := ["rules", "modes", "value"]) fun _ _ _ _ _ _ us hl => match us, hl with | [_, _, _], _ => rfl⟩
  have H_fewest := fun_mk (st := st_fewest) l19 c19 k19
  have G_fewest : Kn l.prog w K mg base 5 "fewest" ["rules", "modes"] (spP 2 (F_fewest)) := ⟨_, _, ok_fewest H_fewest T G_full, PySem.W.mg_of X G a19, k19, H_fewest.binds (ps := ["rules", "modes"]) fun _ _ _ _ _ _ us hl => match us, hl with | [_, _], _ => rfl⟩
  have H_law_deck := fun_mk (st := st_law_deck) l20 c20 k20
  have G_law_deck : Kn l.prog w K mg base 1 "_law_deck" ["_law_script"] (spD 1 (F_law_deck K)) := ⟨_, _, ok_law_deck H_law_deck T , PySem.W.mg_of X G a20, k20, H_law_deck.binds (ps := ["_law_script"]) fun _ _ _ _ _ _ us hl => match us, hl with | [_], _ => rfl⟩
  have H_law_take := fun_mk (st := st_law_take) l21 c21 k21
  have G_law_take : Kn l.prog w K mg base 1 "_law_take" ["_law_deck_here", "_law_many"] (spD 2 (F_law_take)) := ⟨_, _, ok_law_take H_law_take T , PySem.W.mg_of X G a21, k21, H_law_take.binds (ps := ["_law_deck_here", "_law_many"]) fun _ _ _ _ _ _ us hl => match us, hl with | [_, _], _ => rfl⟩
  have H_law_one := fun_mk (st := st_law_one) l22 c22 k22
  have G_law_one : Kn l.prog w K mg base 2 "_law_one" ["_law_deck_here", "_law_items"] (spD 2 (F_law_one)) := ⟨_, _, ok_law_one H_law_one T G_law_take, PySem.W.mg_of X G a22, k22, H_law_one.binds (ps := ["_law_deck_here", "_law_items"]) fun _ _ _ _ _ _ us hl => match us, hl with | [_, _], _ => rfl⟩
  have H_law_rules := fun_mk (st := st_law_rules) l23 c23 k23
  have G_law_rules : Kn l.prog w K mg base 2 "_law_rules" ["_law_deck_here", "_law_most"] (spD 2 (F_law_rules)) := ⟨_, _, ok_law_rules H_law_rules T G_law_take, PySem.W.mg_of X G a23, k23, H_law_rules.binds (ps := ["_law_deck_here", "_law_most"]) fun _ _ _ _ _ _ us hl => match us, hl with | [_, _], _ => rfl⟩
  have H_law_lot := fun_mk (st := st_law_lot) l24 c24 k24
  have G_law_lot : Kn l.prog w K mg base 3 "_law_lot" ["_law_deck_here", "_law_acts"] (spD 2 (F_law_lot)) := ⟨_, _, ok_law_lot H_law_lot T G_law_one G_law_take, PySem.W.mg_of X G a24, k24, H_law_lot.binds (ps := ["_law_deck_here", "_law_acts"]) fun _ _ _ _ _ _ us hl => match us, hl with | [_, _], _ => rfl⟩
  have H_law_mode := fun_mk (st := st_law_mode) l25 c25 k25
  have G_law_mode : Kn l.prog w K mg base 4 "_law_mode" ["_law_deck_here", "_law_acts"] (spD 2 (F_law_mode)) := ⟨_, _, ok_law_mode H_law_mode T G_law_lot G_law_one, PySem.W.mg_of X G a25, k25, H_law_mode.binds (ps := ["_law_deck_here", "_law_acts"]) fun _ _ _ _ _ _ us hl => match us, hl with | [_, _], _ => rfl⟩
  have H_law_modes := fun_mk (st := st_law_modes) l26 c26 k26
  have G_law_modes : Kn l.prog w K mg base 5 "_law_modes" ["_law_deck_here", "_law_acts", "_law_most"] (spD 3 (F_law_modes)) := ⟨_, _, ok_law_modes H_law_modes T G_law_take G_law_mode, PySem.W.mg_of X G a26, k26, H_law_modes.binds (ps := ["_law_deck_here", "_law_acts", "_law_most"]) fun _ _ _ _ _ _ us hl => match us, hl with | [_, _, _], _ => rfl⟩
  exact ok_law (fun_mk (st := st_law) l27 c27 k27) T G_law_deck G_law_rules G_law_modes G_fewest G_serves G_kinds G_law_one G_law_mode G_full G_covers G_alike G_goes
end Pf
namespace Pf
open PySem PySem.Spec PyProof.Rows L2 DL
structure Lot (a : Int) (ns : List Int) : Prop where
  al : ∀ n ∈ ns, 0 ≤ n ∧ n < a
  ln : ns.length ≤ 12
def inP (ps : List (Int × Int)) (p : Int × Int) : Bool := decide (p ∈ ps)
theorem any_inP (ps : List (Int × Int)) (p : Int × Int) : ((ps.map dOf).any fun z => PyData.eqv z (dOf p)) = inP ps p := by
  rw [List.any_map]
  unfold inP
  rw [Bool.eq_iff_iff]
  simp only [List.any_eq_true, Function.comp_apply, eqv_dOf, decide_eq_true_eq]
  constructor
  · rintro ⟨q, h1, h2⟩
    rw [← h2]
    exact h1
  · intro h
    exact ⟨p, h, rfl⟩
theorem ps_tin {a : Int} {ps : List (Int × Int)} (G : GoodP a ps) (ha : a ≤ 12) : tin (.tuple (ps.map dOf)) = true := by
  simp only [tin]
  rw [tinA_all]
  intro d hd
  obtain ⟨p, hp, rfl⟩ := List.mem_map.mp hd
  have := G.al p hp
  exact tin_dOf this.1 this.2.1 (by omega)
theorem ps_depth (ps : List (Int × Int)) : (PyData.tuple (ps.map dOf)).depth ≤ 2 := depth_tup (B := 1) fun d hd => by
  obtain ⟨p, hp, rfl⟩ := List.mem_map.mp hd
  rw [depth_dOf]
  exact Nat.le_refl 1
theorem notIn_ev {a : Int} {ps : List (Int × Int)} (G : GoodP a ps) (ha : a ≤ 12) (i j : Int) (hi : i.natAbs < 100) (hj : j.natAbs < 100) : gIn true (dOf (i, j)) (.tuple (ps.map dOf)) = some (.bool (!inP ps (i, j))) := by
  have h1 : SeqAt.shaped (dOf (i, j)) = true := tin_shaped (by simp only [dOf, tin, tinA, Bool.and_true, Bool.and_eq_true, decide_eq_true_eq]; omega) (by rw [depth_dOf]; decide)
  have h2 : SeqAt.shaped (.tuple (ps.map dOf)) = true := tin_shaped (ps_tin G ha) (Nat.le_trans (ps_depth ps) (by decide))
  simp only [gIn, itemsOf, h1, h2, Bool.and_self, if_true, any_inP]
theorem ix0 (a : Int) (ps : List (Int × Int)) : gIx (rulesD a ps) (.int 0) = some (.int a) := rfl
theorem ix1 (a : Int) (ps : List (Int × Int)) : gIx (rulesD a ps) (.int 1) = some (.tuple (ps.map dOf)) := rfl
def hindB (ps : List (Int × Int)) (i o : Int) : Bool := !inP ps (i, o) && !inP ps (o, i)
theorem boolsOf_map : ∀ bs : List Bool, boolsOf (bs.map .bool) = some bs
  | [] => rfl
  | b :: r => by simp only [List.map_cons, boolsOf, boolsOf_map r, Option.map_some]
theorem gAny_ev (bs : List Bool) : gAny [.list (bs.map .bool)] = some (.bool (bs.any id)) := by
  unfold gAny
  simp only [boolsOf_map, Option.map_some]
def mn (i j : Int) : Int := if j < i then j else i
def mx (i j : Int) : Int := if j > i then j else i
def isAgB (ps : List (Int × Int)) (ns : List Int) (i : Int) : Bool := ns.any fun o => !inP ps (mn i o, mx i o)
def unI : PyData → Int
  | .int i => i
  | _ => 0
theorem filter_true {A : Type} (l : List A) : l.filter (fun _ => true) = l := by simp
abbrev rowI (ns : List Int) : PyData := .tuple (ns.map .int)
theorem is_against_ok {a : Int} {ps : List (Int × Int)} (G : GoodP a ps) (ha : a ≤ 12) (i : Int) (ns : List Int) (hi : 0 ≤ i ∧ i < 12) (L : Lot a ns) : F_is_against [rulesD a ps, .int i, rowI ns] = some (.bool (isAgB ps ns i)) := by
  unfold F_is_against fnP B_is_against
  show (match sSeq _ _ [some (.v (rulesD a ps)), some (.v (.int i)), some (.v (rowI ns)), none, none] [] with | some (.rt (.val d) _) => some d | some (.nx _ _) => some .none | _ => none) = _
  rw [sSeq_nx (sSet_ev (i := 3) (x2_ev (c := rulesD a ps) (d := .int 1) rfl rfl (ix1 a ps)))]
  have lc := xLc_pure (vs := [4]) (it := iSeq (xVar 2)) (g := gN 4) (t := tTrue) (x := x2 (gIn true) (xTup (aCons (xN gMin2 (aCons (xVar 1) (aCons (xVar 4) aNil))) (aCons (xN gMax2 (aCons (xVar 1) (aCons (xVar 4) aNil))) aNil))) (xVar 3))
    (e := [some (.v (rulesD a ps)), some (.v (.int i)), some (.v (rowI ns)), some (.v (.tuple (ps.map dOf))), none]) (w := []) (w1 := []) (ds := ns.map .int) (E := fun d => [some (.v (rulesD a ps)), some (.v (.int i)), some (.v (rowI ns)), some (.v (.tuple (ps.map dOf))), some (.v d)])
    (b := fun _ => true) (y := fun d => .bool (!inP ps (mn i (unI d), mx i (unI d)))) rfl rfl (fun d hd => by
      obtain ⟨o, ho, rfl⟩ := List.mem_map.mp hd
      have hb := L.al o ho
      refine ⟨rfl, rfl, fun _ => ?_⟩
      refine x2_ev (c := dOf (mn i o, mx i o)) (d := .tuple (ps.map dOf)) rfl rfl (notIn_ev G ha _ _ ?_ ?_)
      · unfold mn
        split <;> omega
      · unfold mx
        split <;> omega)
  rw [filter_true, List.map_map] at lc
  show (match sRet _ [some (.v (rulesD a ps)), some (.v (.int i)), some (.v (rowI ns)), some (.v (.tuple (ps.map dOf))), none] [] with | some (.rt (.val d) _) => some d | some (.nx _ _) => some .none | _ => none) = _
  have hl : List.map ((fun d => PyData.bool (!inP ps (mn i (unI d), mx i (unI d)))) ∘ PyData.int) ns = (ns.map fun o => !inP ps (mn i o, mx i o)).map .bool := by
    rw [List.map_map]
    rfl
  rw [hl] at lc
  rw [sRet_ev (xN_ev (g := gAny) (aCons_ev lc rfl) rfl (gAny_ev _))]
  simp only [isAgB, List.any_map]
  rfl
theorem rangeL_mem {d : PyData} {a : Int} {n : Nat} (h : d ∈ rangeL a n) : ∃ i : Int, d = .int i ∧ a ≤ i ∧ i < a + n := by
  unfold rangeL at h
  obtain ⟨k, hk, rfl⟩ := List.mem_map.mp h
  have := List.mem_range.mp hk
  exact ⟨_, rfl, by omega, by omega⟩
theorem range_ev {a : Int} (h1 : 0 ≤ a) (ha : a ≤ 12) : smallI a = true := small_in (by omega) (by omega)
def agD (a : Int) (ps : List (Int × Int)) (ns : List Int) : PyData := .tuple ((rangeL 0 a.toNat).filter fun d => isAgB ps ns (unI d))
theorem against_ok {a : Int} {ps : List (Int × Int)} (G : GoodP a ps) (h1 : 1 ≤ a) (ha : a ≤ 12) (ns : List Int) (L : Lot a ns) : F_against [rulesD a ps, rowI ns] = some (agD a ps ns) := by
  unfold F_against fnP B_against
  show (match sRet _ [some (.v (rulesD a ps)), some (.v (rowI ns)), none] [] with | some (.rt (.val d) _) => some d | some (.nx _ _) => some .none | _ => none) = _
  have hr : iRange1 (x2 gIx (xVar 0) (xC (.int 0))) [some (.v (rulesD a ps)), some (.v (rowI ns)), none] [] = some (rangeL 0 a.toNat, []) := by
    have := x2_ev (e := [some (.v (rulesD a ps)), some (.v (rowI ns)), none]) (w := []) (f := xVar 0) (h := xC (.int 0)) (c := rulesD a ps) (d := .int 0) rfl rfl (ix0 a ps)
    simp only [iRange1, this, range_ev (show 0 ≤ a by omega) ha, if_true]
  have lc := xLc_pure (vs := [2]) (it := iRange1 (x2 gIx (xVar 0) (xC (.int 0)))) (g := gN 2) (t := tBool (xCallP F_is_against (aCons (xVar 0) (aCons (xVar 2) (aCons (xVar 1) aNil))))) (x := xVar 2)
    (e := [some (.v (rulesD a ps)), some (.v (rowI ns)), none]) (w := []) (w1 := []) (ds := rangeL 0 a.toNat) (E := fun d => [some (.v (rulesD a ps)), some (.v (rowI ns)), some (.v d)]) (b := fun d => isAgB ps ns (unI d)) (y := fun d => d) rfl hr (fun d hd => by
      obtain ⟨i, rfl, i1, i2⟩ := rangeL_mem hd
      exact ⟨rfl, tBool_ev (xCallP_ev rfl rfl rfl (is_against_ok G ha i ns ⟨i1, by omega⟩ L)), fun _ => rfl⟩)
  rw [List.map_id'] at lc
  rw [sRet_ev (xN_ev (g := gTuple) (aCons_ev lc rfl) rfl rfl)]
  rfl
theorem same_ag {a : Int} {ps : List (Int × Int)} (G : GoodP a ps) (ns : List Int) (i : Int) : (ns.any fun o => hindB ps i o) = isAgB ps ns i := by
  unfold isAgB
  congr 1
  funext o
  unfold hindB inP mn mx
  by_cases h1 : (i, o) ∈ ps
  · have := (G.al _ h1).2.1
    simp only [h1, decide_true, Bool.not_true, Bool.false_and]
    by_cases hc : i < o
    · rw [if_neg (by omega), if_pos (by omega)]
      simp [h1]
    · have : i = o := by have : i ≤ o := this; omega
      subst this
      simp [h1]
  · by_cases h2 : (o, i) ∈ ps
    · have := (G.al _ h2).2.1
      simp only [h2, decide_true, Bool.not_true, Bool.and_false]
      by_cases hc : o < i
      · rw [if_pos hc, if_neg (by omega)]
        simp [h2]
      · have : i = o := by have : o ≤ i := this; omega
        subst this
        simp [h2]
    · simp only [h1, h2, decide_false, Bool.not_false, Bool.and_self]
      rcases Int.lt_trichotomy i o with h | h | h
      · rw [if_neg (by omega), if_pos (by omega)]
        simp [h1]
      · subst h
        simp [h1]
      · rw [if_pos h, if_neg (by omega)]
        simp [h2]
theorem kI : ∀ d : PyData, gIsi "int" d = some (.bool (match d with | .int _ => true | .bool _ => true | _ => false)) := fun d => by
  cases d <;> (unfold gIsi tyN; first | rw [show kitB "NoneType" "int" = some false by decide +kernel] | rw [show kitB "bool" "int" = some true by decide +kernel] | rw [show kitB "int" "int" = some true by decide +kernel] | rw [show kitB "str" "int" = some false by decide +kernel] | rw [show kitB "list" "int" = some false by decide +kernel] | rw [show kitB "tuple" "int" = some false by decide +kernel] | rw [show kitB "dict" "int" = some false by decide +kernel]) <;> rfl
theorem kB : ∀ d : PyData, gIsi "bool" d = some (.bool (match d with | .bool _ => true | _ => false)) := fun d => by
  cases d <;> (unfold gIsi tyN; first | rw [show kitB "NoneType" "bool" = some false by decide +kernel] | rw [show kitB "bool" "bool" = some true by decide +kernel] | rw [show kitB "int" "bool" = some false by decide +kernel] | rw [show kitB "str" "bool" = some false by decide +kernel] | rw [show kitB "list" "bool" = some false by decide +kernel] | rw [show kitB "tuple" "bool" = some false by decide +kernel] | rw [show kitB "dict" "bool" = some false by decide +kernel]) <;> rfl
theorem kT : ∀ d : PyData, gIsi "tuple" d = some (.bool (match d with | .tuple _ => true | _ => false)) := fun d => by
  cases d <;> (unfold gIsi tyN; first | rw [show kitB "NoneType" "tuple" = some false by decide +kernel] | rw [show kitB "bool" "tuple" = some false by decide +kernel] | rw [show kitB "int" "tuple" = some false by decide +kernel] | rw [show kitB "str" "tuple" = some false by decide +kernel] | rw [show kitB "list" "tuple" = some false by decide +kernel] | rw [show kitB "tuple" "tuple" = some true by decide +kernel] | rw [show kitB "dict" "tuple" = some false by decide +kernel]) <;> rfl
theorem x1_ev {g : PyData → Option PyData} {f : X1} {e : DE} {w w1 : Wd} {d z : PyData} (h : f e w = some (.v d, w1)) (h2 : g d = some z) : x1 g f e w = some (.v z, w1) := by
  simp only [x1, h, DL.valOf, h2, Option.map_some]
theorem xAnd_ev {f h : X1} {e : DE} {w w1 : Wd} {b : Bool} (q : f e w = some (.v (.bool b), w1)) : xAnd f h e w = if b then h e w1 else some (.v (.bool false), w1) := by
  simp only [xAnd, q]
  cases b <;> rfl
theorem xNot_ev {f : X1} {e : DE} {w w1 : Wd} {b : Bool} (q : f e w = some (.v (.bool b), w1)) : xNot f e w = some (.v (.bool (!b)), w1) := by
  simp only [xNot, q]
theorem chain_ev {f h k : X1} {e : DE} {w : Wd} {i j l : Int} (h1 : f e w = some (.v (.int i), w)) (h2 : h e w = some (.v (.int j), w)) (h3 : k e w = some (.v (.int l), w)) : xChain gLe gLe f h k e w = some (.v (.bool (decide (i ≤ j) && decide (j ≤ l))), w) := by
  simp only [xChain, h1, h2, h3, DL.valOf, gLe, gC2, Option.map_some]
  by_cases q : i ≤ j
  · simp [q]
  · simp [q]
def isI : PyData → Bool
  | .int _ => true
  | .bool _ => true
  | _ => false
def isB : PyData → Bool
  | .bool _ => true
  | _ => false
theorem kI' (d : PyData) : gIsi "int" d = some (.bool (isI d)) := by rw [kI]; cases d <;> rfl
theorem kB' (d : PyData) : gIsi "bool" d = some (.bool (isB d)) := by rw [kB]; cases d <;> rfl
theorem kT' (d : PyData) : gIsi "tuple" d = some (.bool (tupB d)) := by rw [kT]; cases d <;> rfl
def inR (b : Int) : PyData → Bool
  | .int i => decide (0 ≤ i) && decide (i ≤ b)
  | _ => false
theorem number_ok (d : PyData) (b : Int) : F_is_number [d, .int 0, .int b] = some (.bool (inR b d)) := by
  unfold F_is_number fnP B_is_number
  show (match sRet _ [some (.v d), some (.v (.int 0)), some (.v (.int b))] [] with | some (.rt (.val d) _) => some d | some (.nx _ _) => some .none | _ => none) = _
  have t1 : x1 (gIsi "int") (xVar 0) [some (.v d), some (.v (.int 0)), some (.v (.int b))] [] = some (.v (.bool (isI d)), []) := x1_ev rfl (kI' d)
  have t2 : xNot (x1 (gIsi "bool") (xVar 0)) [some (.v d), some (.v (.int 0)), some (.v (.int b))] [] = some (.v (.bool (!isB d)), []) := xNot_ev (x1_ev rfl (kB' d))
  have key : ∀ r : Bool, xAnd (x1 (gIsi "int") (xVar 0)) (xAnd (xNot (x1 (gIsi "bool") (xVar 0))) (xChain gLe gLe (xVar 1) (xVar 0) (xVar 2))) [some (.v d), some (.v (.int 0)), some (.v (.int b))] [] = some (.v (.bool r), []) →
      (match sRet (xAnd (x1 (gIsi "int") (xVar 0)) (xAnd (xNot (x1 (gIsi "bool") (xVar 0))) (xChain gLe gLe (xVar 1) (xVar 0) (xVar 2)))) [some (.v d), some (.v (.int 0)), some (.v (.int b))] [] with | some (.rt (.val d) _) => some d | some (.nx _ _) => some .none | _ => none) = some (.bool r) := fun r q => by rw [sRet_ev q]
  refine key _ ?_
  rw [xAnd_ev t1]
  cases d with
  | int i =>
    rw [if_pos (show isI (.int i) = true from rfl), xAnd_ev t2, if_pos (show (!isB (.int i)) = true from rfl)]
    exact chain_ev rfl rfl rfl
  | bool c =>
    rw [if_pos (show isI (.bool c) = true from rfl), xAnd_ev t2]
    rfl
  | _ => rfl
def ascI : List Int → Bool
  | x :: y :: r => decide (x < y) && ascI (y :: r)
  | _ => true
theorem asc_range : ∀ ns : List Int, ((List.range (ns.length - 1)).map fun k => decide (ns.getD k 0 < ns.getD (k + 1) 0)).all id = ascI ns
  | [] => rfl
  | [_] => rfl
  | x :: y :: r => by
    have ih := asc_range (y :: r)
    show ((List.range (r.length + 1)).map _).all id = _
    rw [List.range_succ_eq_map, List.map_cons, List.all_cons, List.map_map]
    unfold ascI
    rw [← ih]
    rfl
theorem inR_ints : ∀ {b : Int} (ds : List PyData), ds.all (inR b) = true → ∃ ns : List Int, ds = ns.map .int ∧ ∀ n ∈ ns, 0 ≤ n ∧ n ≤ b
  | _, [], _ => ⟨[], rfl, by simp⟩
  | b, d :: r, h => by
    simp only [List.all_cons, Bool.and_eq_true] at h
    obtain ⟨ns, rfl, h2⟩ := inR_ints r h.2
    cases d with
    | int i =>
      have q := h.1
      simp only [inR, Bool.and_eq_true, decide_eq_true_eq] at q
      exact ⟨i :: ns, rfl, fun n hn => by
        rcases List.mem_cons.mp hn with rfl | hn
        · exact q
        · exact h2 n hn⟩
    | _ => cases h.1
theorem atI_at (ns : List Int) (k : Nat) (h : k < ns.length) : atI (ns.map PyData.int) (k : Int) = some (.int (ns.getD k 0)) := by
  unfold atI ixN
  rw [List.length_map, if_pos (by omega), if_pos (by omega)]
  show (ns.map PyData.int)[(k : Int).toNat]? = _
  rw [Int.toNat_natCast, List.getElem?_map, List.getElem?_eq_getElem h, List.getD_eq_getElem?_getD, List.getElem?_eq_getElem h]
  rfl
def lotB (a : Int) : PyData → Bool
  | .tuple ds => ds.all (inR (a - 1)) && match intsD ds with | some ns => ascI ns | none => false
  | _ => false
theorem numbers_lc (a : Int) (ds : List PyData) (s0 s1 : Option SV) (F : List PyData → Option PyData) (hF : F = F_is_number) (more : DE) (hn : more.length ≤ 5) (it : I1) (w : Wd) (hi : it (s0 :: s1 :: none :: more) w = some (ds, w))
    (ha : s0 = some (.v (.int a))) : xN gAll (aCons (xLc [2] it (gN 2) tTrue (xCallP F (aCons (xVar 2) (aCons (xC (.int 0)) (aCons (x2 gSub (xVar 0) (xC (.int 1))) aNil))))) aNil) (s0 :: s1 :: none :: more) w = some (.v (.bool (ds.all (inR (a - 1)))), w) := by
  subst hF ha
  have lc := xLc_pure (vs := [2]) (it := it) (g := gN 2) (t := tTrue) (x := xCallP F_is_number (aCons (xVar 2) (aCons (xC (.int 0)) (aCons (x2 gSub (xVar 0) (xC (.int 1))) aNil))))
    (e := some (.v (.int a)) :: s1 :: none :: more) (w := w) (w1 := w) (ds := ds) (E := fun d => some (.v (.int a)) :: s1 :: some (.v d) :: more) (b := fun _ => true) (y := fun d => .bool (inR (a - 1) d)) rfl hi (fun d hd =>
      ⟨rfl, rfl, fun _ => xCallP_ev (aCons_ev (r := .v d) rfl (aCons_ev (r := .v (.int 0)) rfl (aCons_ev (x2_ev (f := xVar 0) (c := .int a) (d := .int 1) (z := .int (a - 1)) rfl rfl rfl) rfl))) rfl rfl (number_ok d (a - 1))⟩)
  rw [filter_true] at lc
  have hl : ds.map (fun d => PyData.bool (inR (a - 1) d)) = (ds.map (inR (a - 1))).map .bool := by
    rw [List.map_map]
    rfl
  rw [hl] at lc
  refine xN_ev (g := gAll) (aCons_ev lc rfl) rfl ?_
  simp only [gAll, boolsOf_map, Option.map_some, List.all_map]
  rfl
theorem tOr_ev {t u : T1} {e : DE} {w w1 : Wd} {b : Bool} (h : t e w = some (b, w1)) : tOrB t u e w = if b then some (true, w1) else u e w1 := by
  simp only [tOrB, h]
  cases b <;> rfl
theorem tNot_ev {t : T1} {e : DE} {w w1 : Wd} {b : Bool} (h : t e w = some (b, w1)) : tNotB t e w = some (!b, w1) := by
  simp only [tNotB, h]
def pairB : PyData → Bool
  | .tuple ds => decide (ds.length = 2)
  | _ => false
theorem eq_int (i j : Int) : gEqS (.int i) (.int j) = some (.bool (i == j)) := by
  show gEq _ _ = _
  unfold gEq
  rw [show SeqAt.shaped (.int i) = true from rfl, show SeqAt.shaped (.int j) = true from rfl]
  simp [eqv_int]
theorem len2 (ds : List PyData) : (((ds.length : Int)) == 2) = decide (ds.length = 2) := by
  rw [Bool.eq_iff_iff, beq_iff_eq, decide_eq_true_eq]
  omega
theorem pair_ok (d : PyData) : F_is_pair [d] = some (.bool (pairB d)) := by
  unfold F_is_pair fnP B_is_pair
  show (match sRet _ [some (.v d)] [] with | some (.rt (.val d) _) => some d | some (.nx _ _) => some .none | _ => none) = _
  have t1 : x1 (gIsi "tuple") (xVar 0) [some (.v d)] [] = some (.v (.bool (tupB d)), []) := x1_ev rfl (kT' d)
  have key : xAnd (x1 (gIsi "tuple") (xVar 0)) (x2 gEqS (xN gLen (aCons (xVar 0) aNil)) (xC (.int 2))) [some (.v d)] [] = some (.v (.bool (pairB d)), []) := by
    rw [xAnd_ev t1]
    cases d with
    | tuple ds =>
      rw [if_pos (show tupB (.tuple ds) = true from rfl)]
      refine x2_ev (c := .int (ds.length : Int)) (d := .int 2) rfl rfl ?_
      rw [eq_int, len2]
      rfl
    | _ => rfl
  rw [sRet_ev key]
def subB : PyData → PyData → Bool
  | .tuple ds, .tuple es => ds.all fun d => es.any fun e => PyData.eqv e d
  | _, _ => false
theorem lot_inv {a : Int} {d : PyData} (h : lotB a d = true) : ∃ ns : List Int, d = rowI ns ∧ ∀ n ∈ ns, 0 ≤ n ∧ n ≤ a - 1 := by
  cases d with
  | tuple ds =>
    simp only [lotB, Bool.and_eq_true] at h
    obtain ⟨ns, rfl, h2⟩ := inR_ints ds h.1
    exact ⟨ns, rfl, h2⟩
  | _ => cases h
theorem row_shaped {a : Int} (ha : a ≤ 12) {ns : List Int} (h : ∀ n ∈ ns, 0 ≤ n ∧ n ≤ a - 1) : SeqAt.shaped (rowI ns) = true := by
  refine tin_shaped ?_ (Nat.le_trans (depth_tup (B := 0) fun d hd => by obtain ⟨n, hn, rfl⟩ := List.mem_map.mp hd; simp [PyData.depth]) (by decide))
  simp only [tin]
  rw [tinA_all]
  intro d hd
  obtain ⟨n, hn, rfl⟩ := List.mem_map.mp hd
  have := h n hn
  simp only [tin, decide_eq_true_eq]
  omega
theorem in_ev (neg : Bool) (n : Int) {es : List PyData} (h : SeqAt.shaped (.tuple es) = true) : gIn neg (.int n) (.tuple es) = some (.bool (if neg then !es.any fun z => PyData.eqv z (.int n) else es.any fun z => PyData.eqv z (.int n))) := by
  simp only [gIn, itemsOf, h, show SeqAt.shaped (.int n) = true from rfl, Bool.and_self, if_true]
theorem has_all_ok {ns : List Int} {es : List PyData} (h : SeqAt.shaped (.tuple es) = true) : F_has_all [.tuple es, rowI ns] = some (.bool (subB (rowI ns) (.tuple es))) := by
  unfold F_has_all fnP B_has_all
  have lc := xLc_pure (vs := [2]) (it := iSeq (xVar 1)) (g := gN 2) (t := tTrue) (x := x2 (gIn false) (xVar 2) (xVar 0)) (e := [some (.v (.tuple es)), some (.v (rowI ns)), none]) (w := []) (w1 := []) (ds := ns.map .int)
    (E := fun d => [some (.v (.tuple es)), some (.v (rowI ns)), some (.v d)]) (b := fun _ => true) (y := fun d => .bool (es.any fun z => PyData.eqv z d)) rfl rfl (fun d hd => by
      obtain ⟨n, hn, rfl⟩ := List.mem_map.mp hd
      exact ⟨rfl, rfl, fun _ => x2_ev (c := .int n) (d := .tuple es) rfl rfl (in_ev false n h)⟩)
  rw [filter_true] at lc
  have hl : (ns.map PyData.int).map (fun d => PyData.bool (es.any fun z => PyData.eqv z d)) = ((ns.map PyData.int).map fun d => es.any fun z => PyData.eqv z d).map .bool := by
    simp only [List.map_map]
    rfl
  rw [hl] at lc
  show (match sRet _ [some (.v (.tuple es)), some (.v (rowI ns)), none] [] with | some (.rt (.val d) _) => some d | some (.nx _ _) => some .none | _ => none) = _
  rw [sRet_ev (xN_ev (g := gAll) (z := .bool (subB (rowI ns) (.tuple es))) (aCons_ev lc rfl) rfl (by
    simp only [gAll, boolsOf_map, Option.map_some, subB, rowI, List.all_map]
    rfl))]
def modeB (a : Int) : PyData → Bool
  | .tuple [x, y] => lotB a x && (lotB a y && subB x y)
  | _ => false
structure Lv (m : Nat) (d : PyData) : Prop where
  lv : d.leavesShort 64 = true
  sh : d.showable = true
  dp : d.depth ≤ m
theorem wA_drop : ∀ (a : List PyData), PyData.weightAll (a.drop 1) ≤ PyData.weightAll a
  | [] => Nat.le_refl _
  | d :: a => by
    simp only [List.drop_succ_cons, List.drop_zero, PyData.weightAll]
    omega
theorem wA_len : ∀ (a : List PyData), a.length ≤ PyData.weightAll a
  | [] => Nat.zero_le _
  | d :: a => by
    have := wA_len a
    simp only [List.length_cons, PyData.weightAll]
    omega
/-- a row of leaves that is not too heavy -/
structure Row (k : Nat) (ds : List PyData) : Prop where
  lv : ∀ d ∈ ds, Lv 0 d
  wt : PyData.weightAll ds ≤ k
theorem Row.drop {k : Nat} {a : List PyData} (h : Row k a) : Row k (a.drop 1) := ⟨fun d hd => h.lv d (List.mem_of_mem_drop hd), Nat.le_trans (wA_drop a) h.wt⟩
theorem Row.le {k l : Nat} {a : List PyData} (h : Row k a) (hl : k ≤ l) : Row l a := ⟨h.lv, Nat.le_trans h.wt hl⟩
/-- a value as the law asks it -/
structure Val (d : PyData) : Prop where
  lv : Lv 4 d
  wt : d.weight ≤ 700
theorem Lv.le {m n : Nat} {d : PyData} (h : Lv m d) (l : m ≤ n) : Lv n d := ⟨h.lv, h.sh, Nat.le_trans h.dp l⟩
theorem Val.len {d x y : PyData} {ds : List PyData} (h : Val d) (e : d = .tuple [x, y]) (q : x = .tuple ds ∨ y = .tuple ds) : ds.length ≤ 1000 := by
  subst e
  have w := h.wt
  have l := wA_len ds
  simp only [PyData.weight, PyData.weightAll] at w
  rcases q with rfl | rfl
  · simp only [PyData.weight] at w
    omega
  · simp only [PyData.weight] at w
    omega
theorem one_ok {T : Int} {w : Wd} (D : Dk T w) (hT : T < 100000000000) {ds : List PyData} (h0 : ds ≠ []) (hl : ds.length ≤ 1000) : ∃ d w', F_law_one [.obj 0, .val (.list ds)] w = some (.val d, w') ∧ d ∈ ds ∧ Dk (T + 1) w' := by
  have hp := List.length_pos_iff.mpr h0
  obtain ⟨k, w', q1, q2, q3, q4⟩ := take_call D (m := (ds.length : Int)) (by omega) (by omega) (by omega)
  have hk : k.toNat < ds.length := by omega
  refine ⟨ds[k.toNat], w', ?_, List.getElem_mem hk, q2⟩
  unfold F_law_one fnD B_law_one
  have t1 : xCallD F_law_take (aCons (xVar 0) (aCons (xN gLen (aCons (xVar 1) aNil)) aNil)) [some (.obj 0), some (.v (.list ds))] w = some (.v (.int k), w') := xCallD_ev (rs := [.obj 0, .v (.int (ds.length : Int))]) (z := .val (.int k)) rfl rfl q1
  have t2 : gIx (.list ds) (.int k) = some ds[k.toNat] := by
    show atI ds k = _
    unfold atI ixN
    rw [if_pos q3, if_pos q4]
    show ds[k.toNat]? = _
    rw [List.getElem?_eq_getElem hk]
  show (match sRet _ [some (.obj 0), some (.v (.list ds))] w with | some (.rt r w') => some (r, w') | some (.nx _ w') => some (.val .none, w') | _ => none) = _
  rw [sRet_ev (x2_ev (f := xVar 1) (c := .list ds) rfl t1 t2)]
structure DLot (a : Int) (ns : List Int) : Prop where
  al : ∀ n ∈ ns, 0 ≤ n ∧ n < a
  ln : (ns.length : Int) ≤ a
theorem insD_len (n : Int) : ∀ l : List Int, (insD n l).length ≤ l.length + 1
  | [] => Nat.le_refl _
  | m :: r => by
    unfold insD
    split
    · exact Nat.le_refl _
    · split
      · simp
      · have := insD_len n r
        simp only [List.length_cons]
        omega
theorem setD_len : ∀ ns : List Int, (setD ns).length ≤ ns.length
  | [] => Nat.le_refl _
  | n :: r => by
    have h1 := setD_len r
    have h2 := insD_len n (setD r)
    show (insD n (setD r)).length ≤ r.length + 1
    omega
structure Sm (D B : Nat) (d : PyData) : Prop where
  t : tin d = true
  dp : d.depth ≤ D
  wt : d.weight ≤ B
theorem Sm.le {D B D' B' : Nat} {d : PyData} (h : Sm D B d) (h1 : D ≤ D') (h2 : B ≤ B') : Sm D' B' d := ⟨h.t, Nat.le_trans h.dp h1, Nat.le_trans h.wt h2⟩
theorem sm_int {i : Int} (h : i.natAbs < 100) : Sm 0 64 (.int i) := ⟨by simp only [tin, decide_eq_true_eq]; omega, by simp [PyData.depth], weight_int (by omega)⟩
theorem sm_tup {D B n : Nat} {ds : List PyData} (h : ∀ d ∈ ds, Sm D B d) (hl : ds.length ≤ n) : Sm (D + 1) (n * (B + 1)) (.tuple ds) := by
  refine ⟨?_, depth_tup fun d hd => (h d hd).dp, ?_⟩
  · simp only [tin]
    rw [tinA_all]
    exact fun d hd => (h d hd).t
  · simp only [PyData.weight]
    exact Nat.le_trans (weightA_le ds fun d hd => (h d hd).wt) (Nat.mul_le_mul_right _ hl)
theorem sm_lst {D B n : Nat} {ds : List PyData} (h : ∀ d ∈ ds, Sm D B d) (hl : ds.length ≤ n) : Sm (D + 1) (n * (B + 1)) (.list ds) := by
  refine ⟨?_, depth_lst fun d hd => (h d hd).dp, ?_⟩
  · simp only [tin]
    rw [tinA_all]
    exact fun d hd => (h d hd).t
  · simp only [PyData.weight]
    exact Nat.le_trans (weightA_le ds fun d hd => (h d hd).wt) (Nat.mul_le_mul_right _ hl)
theorem Sm.shaped {D B : Nat} {d : PyData} (h : Sm D B d) (h1 : D ≤ 64) : SeqAt.shaped d = true := tin_shaped h.t (Nat.le_trans h.dp h1)
theorem all2 {p : PyData → Prop} {x y : PyData} (h1 : p x) (h2 : p y) : ∀ d ∈ [x, y], p d := fun d h => by
  simp only [List.mem_cons, List.not_mem_nil, or_false] at h
  rcases h with rfl | rfl
  · exact h1
  · exact h2
theorem sm_row {ns : List Int} {n : Nat} (h : ∀ k ∈ ns, 0 ≤ k ∧ k < 100) (hl : ns.length ≤ n) : Sm 1 (n * 65) (rowI ns) := sm_tup (D := 0) (B := 64) (fun d hd => by
  obtain ⟨k, hk, rfl⟩ := List.mem_map.mp hd
  have := h k hk
  exact sm_int (by omega)) (by rw [List.length_map]; exact hl)
theorem fnP_ret {n : Nat} {f : X1} {ds : List PyData} {d : PyData} {w : Wd} (h : f (startE n (ds.map .val)) [] = some (.v d, w)) : fnP n (sRet f) ds = some d := by
  unfold fnP
  rw [sRet_ev h]
theorem xIx_ev {f : X1} {e : DE} {w w1 : Wd} {c z : PyData} {i : Int} (h : f e w = some (.v c, w1)) (q : gIx c (.int i) = some z) : x2 gIx f (xC (.int i)) e w = some (.v z, w1) := x2_ev h rfl q
abbrev mD (o m : List Int) : PyData := .tuple [rowI o, rowI m]
structure MD (a : Int) (o m : List Int) : Prop where
  ho : ∀ n ∈ o, 0 ≤ n ∧ n < a
  hm : ∀ n ∈ m, 0 ≤ n ∧ n < a
  lo : o.length ≤ 12
  lm : m.length ≤ 12
theorem MD.sm {a : Int} {o m : List Int} (h : MD a o m) (ha : a ≤ 12) : Sm 2 1562 (mD o m) := sm_tup (n := 2) (D := 1) (B := 780) (all2 (sm_row (n := 12) (fun k hk => by have := h.ho k hk; omega) h.lo) (sm_row (n := 12) (fun k hk => by have := h.hm k hk; omega) h.lm)) (by simp)
theorem hindB_comm (ps : List (Int × Int)) (i o : Int) : hindB ps i o = hindB ps o i := by
  unfold hindB
  exact Bool.and_comm ..
def meetB (ps : List (Int × Int)) (xs ys : List Int) : Bool := xs.any fun x => ys.any fun y => hindB ps x y
def insB (ys xs : List Int) : Bool := xs.all fun x => decide (x ∈ ys)
theorem any_eqv (ys : List Int) (n : Int) : ((ys.map PyData.int).any fun z => PyData.eqv z (.int n)) = decide (n ∈ ys) := by
  rw [Bool.eq_iff_iff]
  simp only [List.any_map, List.any_eq_true, Function.comp_apply, eqv_int, beq_iff_eq, decide_eq_true_eq]
  exact ⟨fun ⟨x, h1, h2⟩ => h2 ▸ h1, fun h => ⟨n, h, rfl⟩⟩
abbrev mdP (p : List Int × List Int) : PyData := mD p.1 p.2
abbrev HE := (Int × Int) × (List Int × List Int)
abbrev hD (x : HE) : PyData := .tuple [.int x.1.1, .int x.1.2, mdP x.2]
theorem in_row (neg : Bool) (n : Int) {ys : List Int} {D B : Nat} (h : Sm D B (rowI ys)) (hD : D ≤ 64) : gIn neg (.int n) (rowI ys) = some (.bool (if neg then !decide (n ∈ ys) else decide (n ∈ ys))) := by
  have q := in_ev neg n (es := ys.map .int) (h.shaped hD)
  rw [any_eqv] at q
  exact q
theorem hinders_eq {a : Int} {ps : List (Int × Int)} (G : GoodP a ps) {o m' : List Int} (hm : ∀ n ∈ m', 0 ≤ n ∧ n < a) : (((rangeL 0 a.toNat).filter fun d => isAgB ps o (unI d)).any fun d => decide (unI d ∈ m')) = meetB ps o m' := by
  rw [Bool.eq_iff_iff]
  simp only [List.any_eq_true, meetB, List.mem_filter, decide_eq_true_eq]
  constructor
  · rintro ⟨d, ⟨h1, h2⟩, h3⟩
    rw [← same_ag G, List.any_eq_true] at h2
    obtain ⟨x, hx, h4⟩ := h2
    exact ⟨x, hx, unI d, h3, by rw [hindB_comm]; exact h4⟩
  · rintro ⟨x, hx, y, hy, h⟩
    have hb := hm y hy
    refine ⟨.int y, ⟨?_, ?_⟩, hy⟩
    · unfold rangeL
      exact List.mem_map.mpr ⟨y.toNat, List.mem_range.mpr (by omega), by congr 1; omega⟩
    · rw [← same_ag G, List.any_eq_true]
      exact ⟨x, hx, by rw [hindB_comm]; exact h⟩
theorem MD.lot {a : Int} {o m : List Int} (M : MD a o m) : Lot a o := ⟨M.ho, M.lo⟩
theorem hinders_ok {a : Int} {ps : List (Int × Int)} (G : GoodP a ps) (h1 : 1 ≤ a) (ha : a ≤ 12) {o m o' m' : List Int} (M : MD a o m) (N : MD a o' m') : F_hinders [rulesD a ps, mD o m, mD o' m'] = some (.bool (meetB ps o m')) := by
  refine fnP_ret (w := []) ?_
  have hag : xCallP F_against (aCons (xVar 0) (aCons (x2 gIx (xVar 1) (xC (.int 0))) aNil)) [some (.v (rulesD a ps)), some (.v (mD o m)), some (.v (mD o' m')), none] [] = some (.v (agD a ps o), []) := xCallP_ev rfl rfl rfl (against_ok G h1 ha o M.lot)
  have sm := sm_row (n := 12) (ns := m') (fun k hk => by have := N.hm k hk; omega) N.lm
  have lc := xLc_pure (vs := [3]) (it := iSeq (xCallP F_against (aCons (xVar 0) (aCons (x2 gIx (xVar 1) (xC (.int 0))) aNil)))) (g := gN 3) (t := tTrue) (x := x2 (gIn false) (xVar 3) (x2 gIx (xVar 2) (xC (.int 1))))
    (e := [some (.v (rulesD a ps)), some (.v (mD o m)), some (.v (mD o' m')), none]) (w := []) (w1 := []) (ds := (rangeL 0 a.toNat).filter fun d => isAgB ps o (unI d)) (E := fun d => [some (.v (rulesD a ps)), some (.v (mD o m)), some (.v (mD o' m')), some (.v d)]) (b := fun _ => true) (y := fun d => .bool (decide (unI d ∈ m'))) rfl
    (by simp only [iSeq, hag, agD]) (fun d hd => by
      obtain ⟨i, rfl, _, _⟩ := rangeL_mem (List.mem_filter.mp hd).1
      exact ⟨rfl, rfl, fun _ => x2_ev (c := .int i) (d := rowI m') rfl rfl (in_row false i sm (by decide))⟩)
  rw [filter_true] at lc
  have hl : ((rangeL 0 a.toNat).filter fun d => isAgB ps o (unI d)).map (fun d => PyData.bool (decide (unI d ∈ m'))) = (((rangeL 0 a.toNat).filter fun d => isAgB ps o (unI d)).map fun d => decide (unI d ∈ m')).map .bool := by
    rw [List.map_map]
    rfl
  rw [hl] at lc
  refine xN_ev (g := gAny) (aCons_ev lc rfl) rfl ?_
  rw [gAny_ev, List.any_map, ← hinders_eq G N.hm]
  rfl
theorem goes_ok {a : Int} {ps : List (Int × Int)} (G : GoodP a ps) (h1 : 1 ≤ a) (ha : a ≤ 12) {o m o' m' : List Int} (M : MD a o m) (N : MD a o' m') : F_goes [rulesD a ps, mD o m, mD o' m'] = some (.bool (!meetB ps o m' && !meetB ps o' m)) := by
  refine fnP_ret (w := []) ?_
  have c1 : xCallP F_hinders (aCons (xVar 0) (aCons (xVar 1) (aCons (xVar 2) aNil))) [some (.v (rulesD a ps)), some (.v (mD o m)), some (.v (mD o' m'))] [] = some (.v (.bool (meetB ps o m')), []) := xCallP_ev rfl rfl rfl (hinders_ok G h1 ha M N)
  have c2 : xCallP F_hinders (aCons (xVar 0) (aCons (xVar 2) (aCons (xVar 1) aNil))) [some (.v (rulesD a ps)), some (.v (mD o m)), some (.v (mD o' m'))] [] = some (.v (.bool (meetB ps o' m)), []) := xCallP_ev rfl rfl rfl (hinders_ok G h1 ha N M)
  show xAnd _ _ [some (.v (rulesD a ps)), some (.v (mD o m)), some (.v (mD o' m'))] [] = _
  rw [xAnd_ev (xNot_ev c1)]
  cases meetB ps o m' with
  | true => rfl
  | false => rw [if_pos (show (!false) = true from rfl), xNot_ev c2, Bool.not_false, Bool.true_and]
theorem subB_row (xs ys : List Int) : subB (rowI xs) (rowI ys) = insB ys xs := by
  simp only [subB, List.all_map, insB]
  congr 1
  funext x
  exact any_eqv ys x
theorem has_row {D B : Nat} {xs ys : List Int} (h : Sm D B (rowI ys)) (hD : D ≤ 64) : F_has_all [rowI ys, rowI xs] = some (.bool (insB ys xs)) := by
  have := has_all_ok (ns := xs) (es := ys.map .int) (h.shaped hD)
  rw [subB_row] at this
  exact this
theorem covers_ok {a : Int} (ha : a ≤ 12) {o m o' m' : List Int} (M : MD a o m) (N : MD a o' m') : F_covers [mD o m, mD o' m'] = some (.bool (insB o o' && insB m m')) := by
  refine fnP_ret (w := []) ?_
  have s1 := sm_row (n := 12) (ns := o) (fun k hk => by have := M.ho k hk; omega) M.lo
  have s2 := sm_row (n := 12) (ns := m) (fun k hk => by have := M.hm k hk; omega) M.lm
  have c1 : xCallP F_has_all (aCons (x2 gIx (xVar 0) (xC (.int 0))) (aCons (x2 gIx (xVar 1) (xC (.int 0))) aNil)) [some (.v (mD o m)), some (.v (mD o' m'))] [] = some (.v (.bool (insB o o')), []) := xCallP_ev rfl rfl rfl (has_row s1 (by decide))
  have c2 : xCallP F_has_all (aCons (x2 gIx (xVar 0) (xC (.int 1))) (aCons (x2 gIx (xVar 1) (xC (.int 1))) aNil)) [some (.v (mD o m)), some (.v (mD o' m'))] [] = some (.v (.bool (insB m m')), []) := xCallP_ev rfl rfl rfl (has_row s2 (by decide))
  show xAnd _ _ [some (.v (mD o m)), some (.v (mD o' m'))] [] = _
  rw [xAnd_ev c1]
  cases insB o o' with
  | false => rfl
  | true => rw [if_pos rfl, c2, Bool.true_and]
theorem cat_row {xs ys : List Int} (h : xs.length + ys.length ≤ 1000000) : gAdd (rowI xs) (rowI ys) = some (rowI (xs ++ ys)) := by
  have : (xs.map PyData.int).length + (ys.map PyData.int).length ≤ LIM := by
    rw [List.length_map, List.length_map]
    exact h
  simp only [rowI, gAdd, this, if_true, List.map_append]
theorem set_row {xs : List Int} (h : xs.length < 60) : gSortSet (rowI xs) = some (.list ((setD xs).map .int)) := by
  simp only [rowI, gSortSet, intsD_map, h, if_true]
structure Rw (k : Nat) (ds : List PyData) : Prop where
  lv : ∀ d ∈ ds, Lv 6 d
  wt : PyData.weightAll ds ≤ k
theorem Rw.le {k l : Nat} {ds : List PyData} (h : Rw k ds) (hl : k ≤ l) : Rw l ds := ⟨h.lv, Nat.le_trans h.wt hl⟩
theorem wA_sub {a b : List PyData} (h : a.Sublist b) : PyData.weightAll a ≤ PyData.weightAll b := by
  induction h with
  | slnil => exact Nat.le_refl _
  | cons d _ ih => simp only [PyData.weightAll]; omega
  | cons_cons d _ ih => simp only [PyData.weightAll]; omega
theorem Rw.sub {k : Nat} {a b : List PyData} (h : Rw k b) (s : a.Sublist b) : Rw k a := ⟨fun d hd => h.lv d (s.subset hd), Nat.le_trans (wA_sub s) h.wt⟩
theorem Lv.of {B : Nat} {d : PyData} (h : d.leavesShort 64 && d.showable && decide (d.depth ≤ B) = true) : Lv B d := by
  simp only [Bool.and_eq_true, decide_eq_true_eq] at h
  exact ⟨h.1.1, h.1.2, h.2⟩
theorem sl_ev {f : X1} {lo hi : O1} {e : DE} {w w1 w2 w3 : Wd} {ds : List PyData} {a b : Option Int} (h : f e w = some (.v (.tuple ds), w1)) (h1 : lo e w1 = some (a, w2)) (h2 : hi e w2 = some (b, w3)) : xSl f lo hi e w = some (.v (.tuple (cutD ds a b)), w3) := by
  simp only [xSl, h, h1, h2, DL.valOf]
theorem oSome_ev {f : X1} {e : DE} {w w1 : Wd} {i : Int} (h : f e w = some (.v (.int i), w1)) : oSome f e w = some (some i, w1) := by
  simp only [oSome, h]
theorem tup_ev {fs : A1} {e : DE} {w w1 : Wd} {rs : List RS} {ds : List PyData} (h : fs e w = some (rs, w1)) (h2 : DL.dataOf rs = some ds) : xTup fs e w = some (.v (.tuple ds), w1) := by
  simp only [xTup, h, h2]
theorem lst_ev {fs : A1} {e : DE} {w w1 : Wd} {rs : List RS} {ds : List PyData} (h : fs e w = some (rs, w1)) (h2 : DL.dataOf rs = some ds) : xLst fs e w = some (.v (.list ds), w1) := by
  simp only [xLst, h, h2]
theorem aNil_ev (e : DE) (w : Wd) : aNil e w = some ([], w) := rfl
theorem takeN {T m : Int} {w : Wd} (D : Dk T w) (hT : T < 1000000000000) (hm : 1 ≤ m) (hm2 : m < 1073741824) : ∃ k w', Dk (T + 1) w' ∧ 0 ≤ k ∧ k < m ∧ ∀ (i : Nat) (f : X1) (e : DE), e[i]? = some (some (.obj 0)) → f e w = some (.v (.int m), w) → xCallD F_law_take (aCons (xVar i) (aCons f aNil)) e w = some (.v (.int k), w') := by
  obtain ⟨k, w', q1, q2, q3, q4⟩ := take_call D hT hm hm2
  refine ⟨k, w', q2, q3, q4, fun i f e he hf => ?_⟩
  have h0 : xVar i e w = some (.obj 0, w) := by simp only [xVar, he]
  exact xCallD_ev (F := F_law_take) (rs := [.obj 0, .v (.int m)]) (z := .val (.int k)) (aCons_ev h0 (aCons_ev hf (aNil_ev e w))) rfl q1
structure Ms (a : Int) (ms : List (List Int × List Int)) : Prop where
  al : ∀ p ∈ ms, MD a p.1 p.2
theorem in_some (neg : Bool) {d c : PyData} {ds : List PyData} (hi : itemsOf c = some ds) (h1 : SeqAt.shaped d = true) (h2 : SeqAt.shaped c = true) : gIn neg d c = some (.bool (if neg then !ds.any fun z => PyData.eqv z d else ds.any fun z => PyData.eqv z d)) := by
  simp only [gIn, hi, h1, h2, Bool.and_self, if_true]
theorem modes_shaped {a : Int} (ha : a ≤ 12) {ms : List (List Int × List Int)} (M : Ms a ms) (hl : ms.length ≤ 60) : SeqAt.shaped (.list (ms.map mdP)) = true := (sm_lst (n := 60) (D := 2) (B := 1562) (fun d hd => by
  obtain ⟨p, hp, rfl⟩ := List.mem_map.mp hd
  exact (M.al p hp).sm ha) (by rw [List.length_map]; exact hl)).shaped (by decide)
theorem tAnd_ev {t u : T1} {e : DE} {w w1 : Wd} {b : Bool} (h : t e w = some (b, w1)) : tAndB t u e w = if b then u e w1 else some (false, w1) := by
  simp only [tAndB, h]
  cases b <;> rfl
theorem one_okT {T : Int} {w : Wd} (D : Dk T w) (hT : T < 100000000000) {ds : List PyData} (h0 : ds ≠ []) (hl : ds.length ≤ 1000) : ∃ d w', F_law_one [.obj 0, .val (.tuple ds)] w = some (.val d, w') ∧ d ∈ ds ∧ Dk (T + 1) w' := by
  have hp := List.length_pos_iff.mpr h0
  obtain ⟨k, w', q1, q2, q3, q4⟩ := take_call D (m := (ds.length : Int)) (by omega) (by omega) (by omega)
  have hk : k.toNat < ds.length := by omega
  refine ⟨ds[k.toNat], w', ?_, List.getElem_mem hk, q2⟩
  unfold F_law_one fnD B_law_one
  have t1 : xCallD F_law_take (aCons (xVar 0) (aCons (xN gLen (aCons (xVar 1) aNil)) aNil)) [some (.obj 0), some (.v (.tuple ds))] w = some (.v (.int k), w') := xCallD_ev (rs := [.obj 0, .v (.int (ds.length : Int))]) (z := .val (.int k)) rfl rfl q1
  have t2 : gIx (.tuple ds) (.int k) = some ds[k.toNat] := by
    show atI ds k = _
    unfold atI ixN
    rw [if_pos q3, if_pos q4]
    show ds[k.toNat]? = _
    rw [List.getElem?_eq_getElem hk]
  show (match sRet _ [some (.obj 0), some (.v (.tuple ds))] w with | some (.rt r w') => some (r, w') | some (.nx _ w') => some (.val .none, w') | _ => none) = _
  rw [sRet_ev (x2_ev (f := xVar 1) (c := .tuple ds) rfl t1 t2)]
def DO (T : Int) (o : WO) : Prop := ∃ cells t g, o = deckO cells t g ∧ cells ≠ [] ∧ cells.length ≤ 64 ∧ 0 ≤ t ∧ t ≤ T ∧ 0 ≤ g
theorem DO.dk {T : Int} {o : WO} (h : DO T o) : Dk T [o] := by
  obtain ⟨c, t, g, rfl, h2⟩ := h
  exact ⟨c, t, g, rfl, h2⟩
theorem DO.of {T : Int} {w : Wd} (h : Dk T w) : ∃ o, w = [o] ∧ DO T o := by
  obtain ⟨c, t, g, rfl, h2⟩ := h
  exact ⟨_, rfl, c, t, g, rfl, h2⟩
theorem DO.mono {T T' : Int} {o : WO} (h : DO T o) (l : T ≤ T') : DO T' o := by
  obtain ⟨c, t, g, h1, h2, h3, h4, h5, h6⟩ := h
  exact ⟨c, t, g, h1, h2, h3, h4, by omega, h6⟩
/-- a def that draws, called beside other things -/
theorem framed {F : List FA → Wd → Option (FA × Wd)} {as : List FA} {o : WO} {T : Int} {d : PyData} {w' : Wd} (h : F as [o] = some (.val d, w')) (D : Dk T w') : ∃ o', DO T o' ∧ ∀ (fs : A1) (e : DE) (w : Wd) (r : Wd) (rs : List RS), fs e w = some (rs, o :: r) → argOf rs = some as → as.all (objIn 1) = true → xCallT 1 F fs e w = some (.v d, o' :: r) := by
  obtain ⟨o', rfl, h2⟩ := DO.of D
  refine ⟨o', h2, fun fs e w r rs h1 h3 h4 => ?_⟩
  simp only [xCallT, h1, h3, h4, List.take_succ_cons, List.take_zero, h, List.drop_succ_cons, List.drop_zero, List.length_cons, List.cons_append, List.nil_append]
  simp
theorem deckT {K : PySem.W.Frag} {ns : List Int} (hl : ns.length ≤ 63) : ∃ o, F_law_deck K [.scr K ns] [] = some (.obj 0, [o]) ∧ DO 0 o := by
  obtain ⟨w', q1, q2⟩ := deck_call (K := K) hl
  obtain ⟨o, rfl, h⟩ := DO.of q2
  exact ⟨o, q1, h⟩
theorem rulesT {T m : Int} {o : WO} (D : DO T o) (hT : T < 10000000000) (hm : 1 ≤ m) (hm2 : m ≤ 12) : ∃ a ps o', 1 ≤ a ∧ a ≤ m ∧ GoodP a ps ∧ (ps.length : Int) ≤ 144 ∧ DO (T + 150) o' ∧ ∀ (i : Nat) (f : X1) (e : DE) (r : Wd), e[i]? = some (some (.obj 0)) → f e (o :: r) = some (.v (.int m), o :: r) → xCallT 1 F_law_rules (aCons (xVar i) (aCons f aNil)) e (o :: r) = some (.v (rulesD a ps), o' :: r) := by
  obtain ⟨a, ps, w', q1, q2, a1, a2, G, l⟩ := rules_ok D.dk hT hm hm2
  obtain ⟨o', D', q5⟩ := framed q1 q2
  refine ⟨a, ps, o', a1, a2, G, l, D', fun i f e r he hf => q5 _ e _ r [.obj 0, .v (.int m)] ?_ rfl rfl⟩
  exact aCons_ev (by simp only [xVar, he]) (aCons_ev hf rfl)
/-- no slot of these holds a list of the def's own -/
def NO (l : DE) : Bool := l.all fun s => !isOwn (some s)
theorem ok1 {e : DE} {v : Nat} (h : isOwn e[v]? = false) : okW e [v] = true := by simp [okW, h]
/-- f gives something, as Q wants it -/
def XQ (f : X1) (e : DE) (w : Wd) (Q : RS → Wd → Prop) : Prop := ∃ r w1, f e w = some (r, w1) ∧ Q r w1
def AQ (fs : A1) (e : DE) (w : Wd) (Q : List RS → Wd → Prop) : Prop := ∃ rs w1, fs e w = some (rs, w1) ∧ Q rs w1
theorem aq_nil {e : DE} {w : Wd} {Q : List RS → Wd → Prop} (k : Q [] w) : AQ aNil e w Q := ⟨[], w, rfl, k⟩
theorem aq_cons {f : X1} {fs : A1} {e : DE} {w : Wd} {Q : List RS → Wd → Prop} (h : XQ f e w fun r w1 => AQ fs e w1 fun rs w2 => Q (r :: rs) w2) : AQ (aCons f fs) e w Q := by
  obtain ⟨r, w1, h1, rs, w2, h2, h3⟩ := h
  exact ⟨_, w2, aCons_ev h1 h2, h3⟩
theorem xq_N {g : List PyData → Option PyData} {fs : A1} {e : DE} {w : Wd} {Q : RS → Wd → Prop} (h : AQ fs e w fun rs w1 => ∃ ds z, valsOf e w1 rs = some ds ∧ g ds = some z ∧ Q (.v z) w1) : XQ (xN g fs) e w Q := by
  obtain ⟨rs, w1, h1, ds, z, h2, h3, h4⟩ := h
  exact ⟨_, w1, xN_ev h1 h2 h3, h4⟩
theorem xq_lc {α : Type} {vs : List Nat} {it : I1} {g : G1} {t : T1} {x : X1} {e : DE} {w w1 : Wd} {Q : RS → Wd → Prop} (enc : α → PyData) (L : List α) (I : List α → List PyData → Wd → Prop) (ho : okW e vs = true) (hi : it e w = some (L.map enc, w1)) (h0 : I L [] w1)
    (st : ∀ a r acc w, I (a :: r) acc w → ∃ e1, g (enc a) (wipeE e vs) = some e1 ∧ ∃ b w1, t e1 w = some (b, w1) ∧ (b = false → I r acc w1) ∧ (b = true → ∃ d' w2, x e1 w1 = some (.v d', w2) ∧ I r (acc ++ [d']) w2))
    (k : ∀ r w', I [] r w' → Q (.v (.list r)) w') : XQ (xLc vs it g t x) e w Q := by
  obtain ⟨r, w', h1, h2⟩ := lc_inv (t := t) (x := x) enc L I ho hi h0 st
  exact ⟨_, w', h1, k r w' h2⟩
theorem sq_retQ {f : X1} {e : DE} {w : Wd} {Q : Out → Prop} (h : XQ f e w fun r w1 => ∃ d, r = .v d ∧ Q (.rt (.val d) w1)) : SQ (sRet f) e w Q := by
  obtain ⟨r, w1, h1, d, rfl, h2⟩ := h
  exact sq_ret h1 h2
theorem xObj_ev {i n : Nat} {e : DE} {w : Wd} (h : e[i]? = some (some (.obj n))) : xVar i e w = some (.obj n, w) := by simp only [xVar, h]
theorem eqv_ints : ∀ xs ys : List Int, PyData.eqvAll (xs.map .int) (ys.map .int) = decide (xs = ys)
  | [], [] => by simp [PyData.eqvAll]
  | [], _ :: _ => by simp [PyData.eqvAll]
  | _ :: _, [] => by simp [PyData.eqvAll]
  | x :: xs, y :: ys => by
    have := eqv_ints xs ys
    simp only [List.map_cons, PyData.eqvAll, eqv_int, this]
    rw [Bool.eq_iff_iff]
    simp
theorem row_eqv (xs ys : List Int) : PyData.eqv (rowI xs) (rowI ys) = decide (xs = ys) := by
  show PyData.eqvAll _ _ = _
  rw [eqv_ints]
def goB (ps : List (Int × Int)) (p q : List Int × List Int) : Bool := !meetB ps p.1 q.2 && !meetB ps q.1 p.2
theorem meet_iff {ps : List (Int × Int)} {xs ys : List Int} : meetB ps xs ys = true ↔ ∃ x ∈ xs, ∃ y ∈ ys, hindB ps x y = true := by simp [meetB]
theorem meet_false {ps : List (Int × Int)} {xs ys : List Int} : meetB ps xs ys = false ↔ ∀ x ∈ xs, ∀ y ∈ ys, hindB ps x y = false := by
  rw [← Bool.not_eq_true, meet_iff]
  simp
theorem ins_iff {xs ys : List Int} : insB ys xs = true ↔ ∀ x ∈ xs, x ∈ ys := by simp [insB]
theorem go_iff {ps : List (Int × Int)} {p q : List Int × List Int} : goB ps p q = true ↔ (∀ x ∈ p.1, ∀ y ∈ q.2, hindB ps x y = false) ∧ ∀ x ∈ q.1, ∀ y ∈ p.2, hindB ps x y = false := by
  unfold goB
  rw [Bool.and_eq_true, Bool.not_eq_true', Bool.not_eq_true', meet_false, meet_false]
theorem asc_of : ∀ {ns : List Int}, ns.Pairwise (· < ·) → ascI ns = true
  | [], _ => rfl
  | [_], _ => rfl
  | x :: y :: r, h => by
    unfold ascI
    rw [asc_of (List.pairwise_cons.mp h).2, Bool.and_true, decide_eq_true_eq]
    exact (List.pairwise_cons.mp h).1 y (List.mem_cons_self ..)
theorem inR_ev {a n : Int} : inR (a - 1) (.int n) = (decide (0 ≤ n) && decide (n ≤ a - 1)) := rfl
theorem lotB_of {a : Int} {ns : List Int} (h : ∀ n ∈ ns, 0 ≤ n ∧ n < a) (hp : ns.Pairwise (· < ·)) : lotB a (rowI ns) = true := by
  unfold lotB
  simp only [intsD_map, asc_of hp, Bool.and_true, List.all_eq_true, List.mem_map, forall_exists_index, and_imp, forall_apply_eq_imp_iff₂]
  intro n hn
  have := h n hn
  rw [inR_ev, Bool.and_eq_true, decide_eq_true_eq, decide_eq_true_eq]
  omega
theorem modeB_of {a : Int} {o m : List Int} (ho : ∀ n ∈ o, 0 ≤ n ∧ n < a) (hm : ∀ n ∈ m, 0 ≤ n ∧ n < a) (po : o.Pairwise (· < ·)) (pm : m.Pairwise (· < ·)) (hs : ∀ n ∈ o, n ∈ m) : modeB a (mD o m) = true := by
  show (lotB a (rowI o) && (lotB a (rowI m) && subB (rowI o) (rowI m))) = true
  rw [lotB_of ho po, lotB_of hm pm, subB_row, ins_iff.mpr hs]
  rfl
theorem goes_P {a : Int} {ps : List (Int × Int)} (G : GoodP a ps) (h1 : 1 ≤ a) (ha : a ≤ 12) {p q : List Int × List Int} (M : MD a p.1 p.2) (N : MD a q.1 q.2) : F_goes [rulesD a ps, mdP p, mdP q] = some (.bool (goB ps p q)) := goes_ok G h1 ha M N
theorem covers_P {a : Int} (ha : a ≤ 12) {p q : List Int × List Int} (M : MD a p.1 p.2) (N : MD a q.1 q.2) : F_covers [mdP p, mdP q] = some (.bool (insB p.1 q.1 && insB p.2 q.2)) := covers_ok ha M N
theorem ne_bools (x y : Bool) : gNeS (.bool x) (.bool y) = some (.bool (!(x == y))) := by cases x <;> cases y <;> rfl
theorem lc_ev {vs : List Nat} {it : I1} {g : G1} {t : T1} {x : X1} {e : DE} {w w1 w2 : Wd} {ds r : List PyData} (ho : okW e vs = true) (hi : it e w = some (ds, w1)) (h : lcGo g t x (wipeE e vs) ds w1 = some (r, w2)) : xLc vs it g t x e w = some (.v (.list r), w2) := by simp only [xLc, ho, hi, h, if_true]
def agI (a : Int) (ps : List (Int × Int)) (xs : List Int) : List Int := ((List.range a.toNat).map fun (i : Nat) => (i : Int)).filter (isAgB ps xs)
theorem ag_row (a : Int) (ps : List (Int × Int)) (xs : List Int) : agD a ps xs = rowI (agI a ps xs) := by
  unfold agD agI rangeL
  congr 1
  rw [List.filter_map, List.filter_map, List.map_map]
  have : ((fun d => isAgB ps xs (unI d)) ∘ fun (i : Nat) => PyData.int (0 + (i : Int))) = (isAgB ps xs ∘ fun (i : Nat) => (i : Int)) := by
    funext i
    simp [unI]
  rw [this]
  apply List.map_congr_left
  intro i _
  simp
theorem ag_mem {a : Int} {ps : List (Int × Int)} (G : GoodP a ps) (xs : List Int) (y : Int) : y ∈ agI a ps xs ↔ (0 ≤ y ∧ y < a) ∧ ∃ x ∈ xs, hindB ps y x = true := by
  unfold agI
  rw [List.mem_filter, List.mem_map, ← same_ag G, List.any_eq_true]
  refine and_congr_left fun _ => ⟨fun ⟨i, hi, e⟩ => ?_, fun h => ⟨y.toNat, List.mem_range.mpr (by omega), by omega⟩⟩
  have := List.mem_range.mp hi
  omega
theorem ag_pw (a : Int) (ps : List (Int × Int)) (xs : List Int) : (agI a ps xs).Pairwise (· < ·) := by
  unfold agI
  refine List.Pairwise.filter _ (List.Pairwise.map _ (fun i j (h : i < j) => ?_) List.pairwise_lt_range)
  omega
theorem ascends_okW (ns : List Int) (hl : ns.length ≤ 100000) : F_ascends [.tuple (ns.map .int)] = some (.bool (ascI ns)) := by
  unfold F_ascends fnP B_ascends
  have hr : iRange1 (x2 gSub (xN gLen (aCons (xVar 0) aNil)) (xC (.int 1))) [some (.v (.tuple (ns.map .int))), none] [] = some (rangeL 0 (ns.length - 1), []) := by
    have := x2_ev (e := [some (.v (.tuple (ns.map .int))), none]) (w := []) (w1 := []) (f := xN gLen (aCons (xVar 0) aNil)) (h := xC (.int 1)) (c := .int ((ns.map PyData.int).length : Int)) (d := .int 1) (g := gSub) rfl rfl rfl
    simp only [iRange1, this, List.length_map, small_in (show -1000000 ≤ (ns.length : Int) - 1 by omega) (show (ns.length : Int) - 1 ≤ 1000000 by omega), if_true]
    congr 2
    congr 1
    omega
  have lc := xLc_pure (vs := [1]) (it := iRange1 (x2 gSub (xN gLen (aCons (xVar 0) aNil)) (xC (.int 1)))) (g := gN 1) (t := tTrue) (x := x2 gLtA (x2 gIx (xVar 0) (xVar 1)) (x2 gIx (xVar 0) (x2 gAdd (xVar 1) (xC (.int 1)))))
    (e := [some (.v (.tuple (ns.map .int))), none]) (w := []) (w1 := []) (ds := rangeL 0 (ns.length - 1)) (E := fun d => [some (.v (.tuple (ns.map .int))), some (.v d)]) (b := fun _ => true) (y := fun d => .bool (decide (ns.getD (unI d).toNat 0 < ns.getD ((unI d).toNat + 1) 0))) rfl hr (fun d hd => by
      unfold rangeL at hd
      obtain ⟨k, hk, rfl⟩ := List.mem_map.mp hd
      have hk := List.mem_range.mp hk
      refine ⟨rfl, rfl, fun _ => ?_⟩
      have a1 := atI_at ns k (by omega)
      have a2 := atI_at ns (k + 1) (by omega)
      have e0 : (0 : Int) + (k : Int) = (k : Int) := by omega
      have e1 : (k : Int) + 1 = ((k + 1 : Nat) : Int) := by omega
      rw [e0]
      refine x2_ev (c := .int (ns.getD k 0)) (d := .int (ns.getD (k + 1) 0)) (x2_ev (c := .tuple (ns.map .int)) (d := .int k) rfl rfl ?_) (x2_ev (c := .tuple (ns.map .int)) (d := .int ((k : Int) + 1)) rfl rfl ?_) ?_
      · exact a1
      · rw [e1]; exact a2
      · simp [gLtA, unI])
  rw [filter_true] at lc
  show (match sRet _ [some (.v (.tuple (ns.map .int))), none] [] with | some (.rt (.val d) _) => some d | some (.nx _ _) => some .none | _ => none) = _
  have hl : (rangeL 0 (ns.length - 1)).map (fun d => PyData.bool (decide (ns.getD (unI d).toNat 0 < ns.getD ((unI d).toNat + 1) 0))) = ((List.range (ns.length - 1)).map fun k => decide (ns.getD k 0 < ns.getD (k + 1) 0)).map .bool := by
    unfold rangeL
    rw [List.map_map, List.map_map]
    apply List.map_congr_left
    intro k _
    simp [unI]
  rw [hl] at lc
  rw [sRet_ev (xN_ev (g := gAll) (z := .bool (ascI ns)) (aCons_ev lc rfl) rfl (by simp only [gAll, boolsOf_map, Option.map_some, asc_range]))]
theorem lot_okW (a : Int) (d : PyData) (hd : ∀ ds, d = .tuple ds → ds.length ≤ 100000) : F_is_lot [.int a, d] = some (.bool (lotB a d)) := by
  unfold F_is_lot fnP B_is_lot
  show (match sSeq _ _ [some (.v (.int a)), some (.v d), none] [] with | some (.rt (.val d) _) => some d | some (.nx _ _) => some .none | _ => none) = _
  have t1 : tNotB (tBool (x1 (gIsi "tuple") (xVar 1))) [some (.v (.int a)), some (.v d), none] [] = some (!tupB d, []) := by
    simp only [tNotB, tBool_ev (x1_ev (f := xVar 1) (e := [some (.v (.int a)), some (.v d), none]) (w := []) rfl (kT' d))]
  cases d with
  | tuple ds =>
    have s1 : sIf (tNotB (tBool (x1 (gIsi "tuple") (xVar 1)))) (sRet (xC (.bool false))) sNx [some (.v (.int a)), some (.v (.tuple ds)), none] [] = some (.nx [some (.v (.int a)), some (.v (.tuple ds)), none] []) := by rw [sIf_ev t1]; rfl
    rw [sSeq_nx s1]
    have n1 := numbers_lc a ds (some (.v (.int a))) (some (.v (.tuple ds))) F_is_number rfl [] (by decide) (iSeq (xVar 1)) [] rfl rfl
    have all : xAnd (xN gAll (aCons (xLc [2] (iSeq (xVar 1)) (gN 2) tTrue (xCallP F_is_number (aCons (xVar 2) (aCons (xC (.int 0)) (aCons (x2 gSub (xVar 0) (xC (.int 1))) aNil))))) aNil)) (xCallP F_ascends (aCons (xVar 1) aNil)) [some (.v (.int a)), some (.v (.tuple ds)), none] [] = some (.v (.bool (lotB a (.tuple ds))), []) := by
      rw [xAnd_ev n1]
      cases q : ds.all (inR (a - 1)) with
      | false => simp [lotB, q]
      | true =>
        obtain ⟨ns, rfl, h2⟩ := inR_ints ds q
        have hl := hd _ rfl
        rw [List.length_map] at hl
        rw [if_pos rfl, xCallP_ev (F := F_ascends) (aCons_ev (r := .v (.tuple (ns.map .int))) rfl rfl) rfl rfl (ascends_okW ns hl)]
        simp [lotB, q, intsD_map]
    rw [sRet_ev all]
  | _ =>
    rw [show sSeq _ _ _ _ = some (.rt (.val (.bool false)) []) from by
      unfold sSeq
      rw [sIf_ev t1]
      rfl]
    rfl
theorem mode_okW {a : Int} (ha : a ≤ 12) (ps : List (Int × Int)) (d : PyData) (hd : ∀ x y ds, d = .tuple [x, y] → x = .tuple ds ∨ y = .tuple ds → ds.length ≤ 100000) : F_is_mode [rulesD a ps, d] = some (.bool (modeB a d)) := by
  unfold F_is_mode fnP B_is_mode
  show (match sSeq _ _ [some (.v (rulesD a ps)), some (.v d), none, none, none] [] with | some (.rt (.val d) _) => some d | some (.nx _ _) => some .none | _ => none) = _
  have t1 : tNotB (tBool (xCallP F_is_pair (aCons (xVar 1) aNil))) [some (.v (rulesD a ps)), some (.v d), none, none, none] [] = some (!pairB d, []) := tNot_ev (tBool_ev (xCallP_ev rfl rfl rfl (pair_ok d)))
  cases q : pairB d with
  | false =>
    rw [show sSeq _ _ _ _ = some (.rt (.val (.bool false)) []) from by
      unfold sSeq
      rw [sIf_ev t1, q]
      rfl]
    have : modeB a d = false := by
      unfold modeB
      split
      · simp [pairB] at q
      · rfl
    rw [this]
  | true =>
    obtain ⟨x, y, rfl⟩ : ∃ x y, d = .tuple [x, y] := by
      cases d with
      | tuple ds =>
        simp only [pairB, decide_eq_true_eq] at q
        match ds, q with
        | [x, y], _ => exact ⟨x, y, rfl⟩
      | _ => cases q
    rw [sSeq_nx (s := sIf _ _ _) (e1 := [some (.v (rulesD a ps)), some (.v (.tuple [x, y])), none, none, none]) (w1 := []) (by rw [sIf_ev t1, q]; rfl)]
    rw [sSeq_nx (s := sPat _ _) (e1 := [some (.v (rulesD a ps)), some (.v (.tuple [x, y])), some (.v x), some (.v y), none]) (w1 := []) rfl]
    rw [sSeq_nx (s := sSet 4 _) (e1 := [some (.v (rulesD a ps)), some (.v (.tuple [x, y])), some (.v x), some (.v y), some (.v (.int a))]) (w1 := []) rfl]
    have l1 : xCallP F_is_lot (aCons (xVar 4) (aCons (xVar 2) aNil)) [some (.v (rulesD a ps)), some (.v (.tuple [x, y])), some (.v x), some (.v y), some (.v (.int a))] [] = some (.v (.bool (lotB a x)), []) := xCallP_ev rfl rfl rfl (lot_okW a x fun ds e => hd x y ds rfl (.inl e))
    have l2 : xCallP F_is_lot (aCons (xVar 4) (aCons (xVar 3) aNil)) [some (.v (rulesD a ps)), some (.v (.tuple [x, y])), some (.v x), some (.v y), some (.v (.int a))] [] = some (.v (.bool (lotB a y)), []) := xCallP_ev rfl rfl rfl (lot_okW a y fun ds e => hd x y ds rfl (.inr e))
    have key : xAnd (xCallP F_is_lot (aCons (xVar 4) (aCons (xVar 2) aNil))) (xAnd (xCallP F_is_lot (aCons (xVar 4) (aCons (xVar 3) aNil))) (xCallP F_has_all (aCons (xVar 3) (aCons (xVar 2) aNil)))) [some (.v (rulesD a ps)), some (.v (.tuple [x, y])), some (.v x), some (.v y), some (.v (.int a))] [] = some (.v (.bool (modeB a (.tuple [x, y]))), []) := by
      rw [xAnd_ev l1]
      cases h1 : lotB a x with
      | false => simp [modeB, h1]
      | true =>
        rw [if_pos rfl, xAnd_ev l2]
        cases h2 : lotB a y with
        | false => simp [modeB, h1, h2]
        | true =>
          obtain ⟨ns, rfl, hn⟩ := lot_inv h1
          obtain ⟨ms, rfl, hm⟩ := lot_inv h2
          rw [if_pos rfl]
          have := has_all_ok (ns := ns) (row_shaped ha hm)
          simp only [modeB, h1, h2, Bool.true_and]
          exact xCallP_ev rfl rfl rfl this
    rw [sRet_ev key]
structure Vz (D k : Nat) (d : PyData) : Prop where
  lv : Lv D d
  wt : d.weight ≤ k
structure Rz (D k : Nat) (ds : List PyData) : Prop where
  lv : ∀ d ∈ ds, Lv D d
  wt : PyData.weightAll ds ≤ k
theorem Vz.le {D D' k k' : Nat} {d : PyData} (h : Vz D k d) (h1 : D ≤ D') (h2 : k ≤ k') : Vz D' k' d := ⟨h.lv.le h1, Nat.le_trans h.wt h2⟩
theorem Rz.le {D D' k k' : Nat} {d : List PyData} (h : Rz D k d) (h1 : D ≤ D') (h2 : k ≤ k') : Rz D' k' d := ⟨fun x hx => (h.lv x hx).le h1, Nat.le_trans h.wt h2⟩
theorem Rz.sub {D k : Nat} {a b : List PyData} (h : Rz D k b) (s : a.Sublist b) : Rz D k a := ⟨fun d hd => h.lv d (s.subset hd), Nat.le_trans (wA_sub s) h.wt⟩
theorem Rz.mem {D k : Nat} {ds : List PyData} (h : Rz D k ds) {d : PyData} (hd : d ∈ ds) : Vz D k d := ⟨h.lv d hd, by
  have := wA_sub (List.singleton_sublist.mpr hd)
  simp only [PyData.weightAll] at this
  have := h.wt
  omega⟩
theorem len_ev {α : Type} {enc : α → PyData} {L : List α} {i : Nat} {e : DE} {w : Wd} (h : e[i]? = some (some (.v (.tuple (L.map enc))))) : xN gLen (aCons (xVar i) aNil) e w = some (.v (.int (L.length : Int)), w) := by
  refine xN_ev (aCons_ev (xVar_ev h) (aNil_ev _ _)) rfl ?_
  simp [gLen]
theorem len_wt {ds : List PyData} {k : Nat} (h : PyData.weightAll ds ≤ k) : ds.length ≤ k := Nat.le_trans (wA_len ds) h
theorem mode_okV {a : Int} (ha : a ≤ 12) (ps : List (Int × Int)) (d : PyData) (hd : d.weight ≤ 100000) : F_is_mode [rulesD a ps, d] = some (.bool (modeB a d)) := by
  refine mode_okW ha ps d fun x y ds e1 e2 => ?_
  subst e1
  simp only [PyData.weight, PyData.weightAll] at hd
  rcases e2 with e2 | e2 <;> subst e2 <;> simp only [PyData.weight] at hd
  · exact len_wt (k := 100000) (by omega)
  · exact len_wt (k := 100000) (by omega)
structure MR (a : Int) (p : List Int × List Int) : Prop where
  md : MD a p.1 p.2
  sub : ∀ n ∈ p.1, n ∈ p.2
  po : p.1.Pairwise (· < ·)
  pm : p.2.Pairwise (· < ·)
structure HI (a L : Int) (N B : Nat) (kvs : List HE) : Prop where
  nd : (kvs.map (·.1)).Nodup
  ra : ∀ x ∈ kvs, 0 ≤ x.1.1 ∧ x.1.1 < 4 ∧ 0 ≤ x.1.2 ∧ x.1.2 < L
  md : ∀ x ∈ kvs, MR a x.2
  ln : kvs.length ≤ N
  ow : (kvs.map fun x => x.2.1.length).sum ≤ B
theorem HI.le {a L : Int} {N B N' B' : Nat} {kvs : List HE} (h : HI a L N B kvs) (h1 : N ≤ N') (h2 : B ≤ B') : HI a L N' B' kvs := ⟨h.nd, h.ra, h.md, Nat.le_trans h.ln h1, Nat.le_trans h.ow h2⟩
structure Hs (a L : Int) (N B : Nat) (hs : List HE) : Prop where
  hi : HI a L N B hs
  pw : (hs.map (·.1)).Pairwise lexlt
theorem rg1_ev {f : X1} {e : DE} {w w1 : Wd} {k : Int} (h : f e w = some (.v (.int k), w1)) (h1 : -1000000 ≤ k) (h2 : k ≤ 1000000) : iRange1 f e w = some (rangeL 0 k.toNat, w1) := by
  simp only [iRange1, h, small_in h1 h2, if_true]
theorem lcGo_map {α : Type} {g : G1} {t : T1} {x : X1} {e0 : DE} {w : Wd} (enc : α → PyData) (b : α → Bool) (y : α → PyData) : ∀ L : List α, (∀ a ∈ L, ∃ E, g (enc a) e0 = some E ∧ t E w = some (b a, w) ∧ (b a = true → x E w = some (.v (y a), w))) → lcGo g t x e0 (L.map enc) w = some ((L.filter b).map y, w)
  | [], _ => rfl
  | a :: r, h => by
    obtain ⟨E, h1, h2, h3⟩ := h a (List.mem_cons_self ..)
    have ih := lcGo_map enc b y r fun a ha => h a (List.mem_cons_of_mem _ ha)
    rw [List.map_cons]
    unfold lcGo
    rw [h1]
    simp only [h2]
    cases q : b a with
    | false => simp only [ih, List.filter_cons, q, Bool.false_eq_true, if_false]
    | true => simp only [h3 q, ih, List.filter_cons, q, if_true, List.map_cons]
theorem sum_sub {α : Type} (m : α → Nat) : ∀ {xs ys : List α}, xs.Sublist ys → (xs.map m).sum ≤ (ys.map m).sum
  | _, _, .slnil => Nat.le_refl _
  | _, _, .cons _ h => by have := sum_sub m h; simp only [List.map_cons, List.sum_cons]; omega
  | _, _, .cons_cons _ h => by have := sum_sub m h; simp only [List.map_cons, List.sum_cons]; omega
theorem flat_len {α β : Type} (f : α → List β) : ∀ xs : List α, (xs.flatMap f).length = (xs.map fun x => (f x).length).sum
  | [] => rfl
  | x :: r => by rw [List.flatMap_cons, List.length_append, flat_len f r]; rfl
def rgF (lo : Int) (n : Nat) : List Int := (List.range n).map fun (i : Nat) => lo + (i : Int)
theorem cut_from (ds : List PyData) (i : Nat) : cutD ds (some (i : Int)) none = ds.drop i := by
  unfold DL.cutD
  rw [HT.sIx_none, HT.sIx_nat]
  by_cases h : i ≤ ds.length
  · rw [Nat.min_eq_left h, List.take_of_length_le (by rw [List.length_drop]; exact Nat.le_refl _)]
  · rw [Nat.min_eq_right (by omega), List.drop_length, List.drop_of_length_le (by omega)]
    simp
theorem Hs.sub {a L : Int} {N B : Nat} {hs ks : List HE} (H : Hs a L N B hs) (s : ks.Sublist hs) : Hs a L N B ks :=
  ⟨⟨H.hi.nd.sublist (s.map _), fun x hx => H.hi.ra x (s.subset hx), fun x hx => H.hi.md x (s.subset hx), Nat.le_trans s.length_le H.hi.ln, Nat.le_trans (sum_sub _ s) H.hi.ow⟩, H.pw.sublist (s.map _)⟩
theorem Hs.nil {a L : Int} {N B : Nat} : Hs a L N B [] := ⟨⟨.nil, (fun x hx => nomatch hx), (fun x hx => nomatch hx), Nat.zero_le _, Nat.zero_le _⟩, .nil⟩
def FQ (r : Option PyData) (I : DE → Prop) (w : Wd) : Out → Prop := fun o => match r with
  | some d => o = .rt (.val d) w
  | none => ∃ e', I e' ∧ o = .nx e' w
theorem FQ.mono {r : Option PyData} {I J : DE → Prop} {w : Wd} {o : Out} (h : FQ r I w o) (k : ∀ e, I e → J e) : FQ r J w o := by
  cases r with
  | some d => exact h
  | none => exact h.imp fun e q => ⟨k e q.1, q.2⟩
theorem lot_drawS {T a : Int} {w : Wd} (D : Dk T w) (hT : T < 10000000000) (h1 : 1 ≤ a) (ha : a ≤ 6) : ∃ ns w', F_law_lot [.obj 0, .val (.int a)] w = some (.val (rowI ns), w') ∧ DLot a ns ∧ ns.Pairwise (· < ·) ∧ Dk (T + 7) w' := by
  obtain ⟨d, w1, q1, q2, D1⟩ := one_ok D (by omega) (ds := [.int 1, .int 2, .int 3]) (by simp) (by decide)
  obtain ⟨near, rfl⟩ : ∃ near, d = .int near := by
    simp only [List.mem_cons, List.not_mem_nil, or_false] at q2
    rcases q2 with rfl | rfl | rfl <;> exact ⟨_, rfl⟩
  obtain ⟨d, w', q, ns, rfl, L, pw, D'⟩ := fnD_v (n := 4) (body := B_law_lot) (as := [.obj 0, .val (.int a)]) (w := w) (R := fun d w' => ∃ ns, d = rowI ns ∧ DLot a ns ∧ ns.Pairwise (· < ·) ∧ Dk (T + 7) w') (by
    refine sq_set (xCallD_ev (rs := [.obj 0, .v (.list [.int 1, .int 2, .int 3])]) (z := .val (.int near)) rfl rfl q1) ?_
    refine sq_retQ (xq_N (aq_cons (xq_lc .int (rgF 0 a.toNat) (fun rest acc w => ∃ (ns : List Int), acc = ns.map .int ∧ (ns ++ rest).Sublist (rgF 0 a.toNat) ∧ Dk (T + 1 + a - rest.length) w) (ok1 (by rfl)) ((rg1_ev (xVar_ev rfl) (by omega) (by omega)).trans (by rw [rangeL_map]; rfl)) ⟨[], rfl, List.Sublist.refl _, D1.mono (by simp [rgF]; omega)⟩ ?_ ?_)))
    · rintro n rest acc w ⟨ns, rfl, hs, Dw⟩
      refine ⟨_, gN_ev rfl, ?_⟩
      have hl : rest.length + 1 ≤ a.toNat := by
        have := hs.length_le
        simp [rgF] at this
        omega
      obtain ⟨k, w1, q1, q2, q3, q4⟩ := take_ev (m := 4) Dw (by simp only [List.length_cons]; omega) (by decide) (by decide) (f := xC (.int 4)) (e := [some (.obj 0), some (.v (.int a)), some (.v (.int near)), some (.v (.int n))]) rfl fun _ => rfl
      refine ⟨decide (k < near), w1, tBool_ev (x2_ev (d := .int near) q1 rfl rfl), fun _ => ⟨ns, rfl, ?_, q2.mono (by simp only [List.length_cons]; omega)⟩, fun _ => ⟨_, _, xVar_ev rfl, ns ++ [n], by simp, by simpa using hs, q2.mono (by simp only [List.length_cons]; omega)⟩⟩
      exact (List.Sublist.append_left (List.sublist_cons_self n rest) ns).trans hs
    rintro _ w2 ⟨ns, rfl, hs, D2⟩
    rw [List.append_nil] at hs
    have pw : (rgF 0 a.toNat).Pairwise (· < ·) := List.Pairwise.map _ (fun i j (h : i < j) => by omega) List.pairwise_lt_range
    refine aq_nil ⟨_, _, rfl, rfl, _, rfl, _, rfl, ns, rfl, ⟨fun n hn => ?_, ?_⟩, pw.sublist hs, D2.mono (by simp; omega)⟩
    · obtain ⟨i, hi, rfl⟩ := List.mem_map.mp (hs.subset hn)
      have := List.mem_range.mp hi
      omega
    · have := hs.length_le
      simp [rgF] at this
      omega)
  exact ⟨ns, w', q, L, pw, D'⟩
theorem mode_drawR {T a : Int} {w : Wd} (D : Dk T w) (hT : T < 1000000000) (h1 : 1 ≤ a) (ha : a ≤ 6) : ∃ p w', MR a p ∧ Dk (T + 15) w' ∧ F_law_mode [.obj 0, .val (.int a)] w = some (.val (mdP p), w') := by
  obtain ⟨m1, w1, q1, L1, S1, D1⟩ := lot_drawS D (by omega) h1 ha
  obtain ⟨m2, w2, q2, L2, S2, D2⟩ := lot_drawS D1 (by omega) h1 ha
  obtain ⟨d, w3, q3, q4, D3⟩ := one_ok D2 (by omega) (ds := [.tuple [], rowI m1, rowI m2]) (by simp) (by simp)
  obtain ⟨own, rfl, Lo, So⟩ : ∃ own, d = rowI own ∧ DLot a own ∧ own.Pairwise (· < ·) := by
    simp only [List.mem_cons, List.not_mem_nil, or_false] at q4
    rcases q4 with rfl | rfl | rfl
    · exact ⟨[], rfl, ⟨(fun n hn => nomatch hn), by simp; omega⟩, .nil⟩
    · exact ⟨m1, rfl, L1, S1⟩
    · exact ⟨m2, rfl, L2, S2⟩
  have hlo := Lo.ln
  have hl1 := L1.ln
  have key : F_law_mode [.obj 0, .val (.int a)] w = some (.val (mD own (setD (own ++ m1))), w3) := by
    unfold F_law_mode
    obtain ⟨r, w', q, h⟩ := fnD_q (n := 4) (body := B_law_mode) (as := [.obj 0, .val (.int a)]) (w := w) (R := fun r w' => r = .val (mD own (setD (own ++ m1))) ∧ w' = w3) (by
      refine sq_set (xCallD_ev (rs := [.obj 0, .v (.int a)]) (z := .val (rowI m1)) rfl rfl q1) ?_
      refine sq_set (xCallD_ev (z := .val (rowI own)) (aCons_ev (r := .obj 0) rfl (aCons_ev (lst_ev (aCons_ev rfl (aCons_ev (xVar_ev rfl) (aCons_ev (xCallD_ev (rs := [.obj 0, .v (.int a)]) (z := .val (rowI m2)) rfl rfl q2) (aNil_ev _ _)))) rfl) (aNil_ev _ _))) rfl q3) ?_
      refine sq_ret (tup_ev (aCons_ev (xVar_ev rfl) (aCons_ev (xN_ev (g := gTuple) (aCons_ev (x1_ev (x2_ev (xVar_ev rfl) (xVar_ev rfl) (cat_row (by omega))) (set_row (by rw [List.length_append]; omega))) rfl) rfl rfl) (aNil_ev _ _))) rfl) ⟨rfl, rfl⟩)
    rw [q, h.1, h.2]
  refine ⟨(own, setD (own ++ m1)), w3, ⟨⟨fun n hn => Lo.al n hn, fun n hn => ?_, ?_, ?_⟩, fun n hn => (setD_mem n _).mpr (List.mem_append_left _ hn), So, setD_pw _⟩, D3.mono (by omega), key⟩
  · rcases List.mem_append.mp ((setD_mem n _).mp hn) with h | h
    · exact Lo.al n h
    · exact L1.al n h
  · show own.length ≤ 12
    omega
  · have := setD_len (own ++ m1)
    rw [List.length_append] at this
    show (setD (own ++ m1)).length ≤ 12
    omega
theorem modeTR {T a : Int} {o : WO} (D : DO T o) (hT : T < 1000000000) (h1 : 1 ≤ a) (ha : a ≤ 6) : ∃ p o', MR a p ∧ DO (T + 15) o' ∧ ∀ (i : Nat) (f : X1) (e : DE) (r : Wd), e[i]? = some (some (.obj 0)) → f e (o :: r) = some (.v (.int a), o :: r) → xCallT 1 F_law_mode (aCons (xVar i) (aCons f aNil)) e (o :: r) = some (.v (mdP p), o' :: r) := by
  obtain ⟨p, w', M, D', q⟩ := mode_drawR D.dk hT h1 ha
  obtain ⟨o', D', q5⟩ := framed q D'
  exact ⟨p, o', M, D', fun i f e r he hf => q5 _ e _ r [.obj 0, .v (.int a)] (aCons_ev (by simp only [xVar, he]) (aCons_ev hf rfl)) rfl rfl⟩
def AV (fs : A1) (e : DE) (w : Wd) (ds : List PyData) (w1 : Wd) : Prop := fs e w = some (ds.map RS.v, w1)
theorem vals_map (e : DE) (w : Wd) : ∀ ds : List PyData, valsOf e w (ds.map RS.v) = some ds
  | [] => rfl
  | d :: r => by rw [List.map_cons]; simp only [valsOf, DL.valOf, vals_map e w r]
theorem data_map : ∀ ds : List PyData, DL.dataOf (ds.map RS.v) = some ds
  | [] => rfl
  | d :: r => by rw [List.map_cons]; simp only [DL.dataOf, data_map r]; rfl
theorem plain_map : ∀ ds : List PyData, plainR (ds.map RS.v) = true
  | [] => rfl
  | d :: r => plain_map r
theorem av_nil {e : DE} {w : Wd} : AV aNil e w [] w := rfl
theorem av_cons {f : X1} {fs : A1} {e : DE} {w w1 w2 : Wd} {d : PyData} {ds : List PyData} (h : f e w = some (.v d, w1)) (h2 : AV fs e w1 ds w2) : AV (aCons f fs) e w (d :: ds) w2 := aCons_ev h h2
theorem tup_av {fs : A1} {e : DE} {w w1 : Wd} {ds : List PyData} (h : AV fs e w ds w1) : xTup fs e w = some (.v (.tuple ds), w1) := tup_ev h (data_map ds)
theorem xN_av {g : List PyData → Option PyData} {fs : A1} {e : DE} {w w1 : Wd} {ds : List PyData} {z : PyData} (h1 : AV fs e w ds w1) (h3 : g ds = some z) : xN g fs e w = some (.v z, w1) := xN_ev h1 (vals_map e w1 ds) h3
theorem callP_av {F : List PyData → Option PyData} {fs : A1} {e : DE} {w w1 : Wd} {ds : List PyData} {z : PyData} (h1 : AV fs e w ds w1) (h3 : F ds = some z) : xCallP F fs e w = some (.v z, w1) := xCallP_ev h1 (plain_map ds) (vals_map e w1 ds) h3
theorem asc_len : ∀ {l : List Int} {lo hi : Int}, l.Pairwise (· < ·) → (∀ n ∈ l, lo ≤ n ∧ n < hi) → l.length ≤ (hi - lo).toNat
  | [], _, _, _, _ => Nat.zero_le _
  | x :: r, lo, hi, h, hb => by
    have b := hb x (List.mem_cons_self ..)
    have ih := asc_len (lo := x + 1) (hi := hi) (List.pairwise_cons.mp h).2 fun n hn => by
      have := (List.pairwise_cons.mp h).1 n hn
      have := hb n (List.mem_cons_of_mem _ hn)
      omega
    rw [List.length_cons]
    omega
theorem sum_le {α : Type} (f : α → Nat) (c : Nat) : ∀ {l : List α}, (∀ x ∈ l, f x ≤ c) → (l.map f).sum ≤ l.length * c
  | [], _ => Nat.zero_le _
  | x :: r, h => by
    have h1 := h x (List.mem_cons_self ..)
    have h2 := sum_le f c (l := r) fun y hy => h y (List.mem_cons_of_mem _ hy)
    rw [List.map_cons, List.sum_cons, List.length_cons, Nat.add_mul, Nat.one_mul]
    omega
theorem iSeq_lst {f : X1} {e : DE} {w w1 : Wd} {ds : List PyData} (h : f e w = some (.v (.list ds), w1)) : iSeq f e w = some (ds, w1) := by simp only [iSeq, h]
theorem iSeq_tup {f : X1} {e : DE} {w w1 : Wd} {ds : List PyData} (h : f e w = some (.v (.tuple ds), w1)) : iSeq f e w = some (ds, w1) := by simp only [iSeq, h]
theorem nd_ints : ∀ ns : List Int, noDict.noDictA (ns.map .int) = true
  | [] => rfl
  | n :: r => by rw [List.map_cons]; unfold noDict.noDictA; rw [nd_ints r]; rfl
theorem alike_ints : ∀ xs ys : List Int, PySem.W.alikeAll (xs.map .int) (ys.map .int) = true
  | [], _ => by simp [PySem.W.alikeAll]
  | _ :: _, [] => by simp [PySem.W.alikeAll]
  | x :: xs, y :: ys => by rw [List.map_cons, List.map_cons, PySem.W.alikeAll, alike_ints xs ys]; rfl
theorem pw_two {α : Type} {R : α → α → Prop} {l : List α} (h : l.Pairwise R) {x y : α} (hx : x ∈ l) (hy : y ∈ l) (ne : x ≠ y) : R x y ∨ R y x := by
  obtain ⟨s, t, rfl⟩ := List.append_of_mem hx
  obtain ⟨_, h2, h3⟩ := List.pairwise_append.mp h
  rcases List.mem_append.mp hy with hy | hy
  · exact .inr (h3 y hy x (List.mem_cons_self ..))
  · rcases List.mem_cons.mp hy with rfl | hy
    · exact absurd rfl ne
    · exact .inl ((List.pairwise_cons.mp h2).1 y hy)
theorem lc_filter {α : Type} {v : Nat} {it : I1} {t : T1} {e : DE} {w : Wd} (enc : α → PyData) (L : List α) (b : α → Bool) (ho : isOwn e[v]? = false) (hw : isOwn (wipeE e [v])[v]? = false) (hi : it e w = some (L.map enc, w)) (ht : ∀ a ∈ L, t ((wipeE e [v]).set v (some (.v (enc a)))) w = some (b a, w)) (hx : ∀ d, xVar v ((wipeE e [v]).set v (some (.v d))) w = some (.v d, w)) :
    xLc [v] it (gN v) t (xVar v) e w = some (.v (.list ((L.filter b).map enc)), w) :=
  lc_ev (ok1 ho) hi (lcGo_map enc b enc L fun a ha => ⟨_, gN_ev hw, ht a ha, fun _ => hx _⟩)
theorem lt_trans {x y z : PyData} (h1 : PySem.W.dataLt x y = true) (h2 : PySem.W.dataLt y z = true) : PySem.W.dataLt x z = true := (PyProof.Rows.listOrd itemOrd).trans _ _ _ h1 h2
theorem lt_asym {x y : PyData} (h : PySem.W.dataLt x y = true) : PySem.W.dataLt y x = false := by
  cases q : PySem.W.dataLt y x with
  | false => rfl
  | true =>
    have := lt_trans h q
    rw [show PySem.W.dataLt x x = false from (PyProof.Rows.listOrd itemOrd).irrefl _] at this
    cases this
theorem six_is {p : Nat → Prop} (h1 : p 1) (h2 : p 2) (h3 : p 3) (h4 : p 4) (h5 : p 5) (h6 : p 6) {n : Nat} (a : 1 ≤ n) (b : n ≤ 6) : p n := by
  match n, a, b with
  | 1, _, _ => exact h1
  | 2, _, _ => exact h2
  | 3, _, _ => exact h3
  | 4, _, _ => exact h4
  | 5, _, _ => exact h5
  | 6, _, _ => exact h6
def rg (a : Int) : List Int := rgF 0 a.toNat
theorem rg_mem {a : Int} {n : Int} : n ∈ rg a ↔ 0 ≤ n ∧ n < a := by
  unfold rg rgF
  rw [List.mem_map]
  constructor
  · rintro ⟨i, hi, rfl⟩
    have := List.mem_range.mp hi
    omega
  · rintro ⟨h1, h2⟩
    exact ⟨n.toNat, List.mem_range.mpr (by omega), by omega⟩
theorem rg_pw (a : Int) : (rg a).Pairwise (· < ·) := by
  unfold rg rgF
  exact List.pairwise_map.mpr (List.pairwise_lt_range.imp fun h => by omega)
def wid (a : Int) (ps : List (Int × Int)) (ns : List Int) : List Int := (rg a).filter fun n => insB (agI a ps ns) (agI a ps [n])
theorem wid_in (a : Int) (ps : List (Int × Int)) (ns : List Int) : ∀ n ∈ wid a ps ns, 0 ≤ n ∧ n < a := fun n hn => rg_mem.mp (List.mem_filter.mp hn).1
theorem wid_pw (a : Int) (ps : List (Int × Int)) (ns : List Int) : (wid a ps ns).Pairwise (· < ·) := (rg_pw a).filter _
theorem ag_in (a : Int) (ps : List (Int × Int)) (ns : List Int) : ∀ n ∈ agI a ps ns, 0 ≤ n ∧ n < a := fun n hn => by
  unfold agI at hn
  obtain ⟨i, hi, rfl⟩ := List.mem_map.mp (List.mem_filter.mp hn).1
  have := List.mem_range.mp hi
  omega
theorem ag_len {a : Int} (ha : a ≤ 12) (ps : List (Int × Int)) (ns : List Int) : (agI a ps ns).length ≤ 12 := by
  have := asc_len (ag_pw a ps ns) (ag_in a ps ns)
  omega
theorem ag_sm {a : Int} (ha : a ≤ 12) (ps : List (Int × Int)) (ns : List Int) : Sm 1 780 (rowI (agI a ps ns)) := sm_row (n := 12) (fun k hk => by have := ag_in a ps ns k hk; omega) (ag_len ha ps ns)
theorem ag_eq {a : Int} {ps : List (Int × Int)} (G : GoodP a ps) (h1 : 1 ≤ a) (ha : a ≤ 12) {ns : List Int} (h : ∀ n ∈ ns, 0 ≤ n ∧ n < a) (hl : ns.length ≤ 12) : F_against [rulesD a ps, rowI ns] = some (rowI (agI a ps ns)) := by
  rw [← ag_row]
  exact against_ok G h1 ha ns ⟨h, hl⟩
theorem rg_ev {f : X1} {e : DE} {w : Wd} {a : Int} (h : f e w = some (.v (.int a), w)) (h1 : 1 ≤ a) (ha : a ≤ 12) : iRange1 f e w = some ((rg a).map .int, w) := by
  rw [rg1_ev h (by omega) (by omega), rangeL_map]
  rfl
theorem widened_ok {a : Int} {ps : List (Int × Int)} (G : GoodP a ps) (h1 : 1 ≤ a) (ha : a ≤ 12) {ns : List Int} (h : ∀ n ∈ ns, 0 ≤ n ∧ n < a) (hl : ns.length ≤ 12) : F_widened [rulesD a ps, rowI ns] = some (rowI (wid a ps ns)) := by
  have g0 : gIx (rulesD a ps) (.int 0) = some (.int a) := rfl
  refine fnP_q ?_
  refine sq_set (w1 := []) (callP_av (av_cons (xVar_ev rfl) (av_cons (xVar_ev rfl) av_nil)) (ag_eq G h1 ha h hl)) ?_
  show SQ _ [some (.v (rulesD a ps)), some (.v (rowI ns)), some (.v (rowI (agI a ps ns))), none] _ _
  refine sq_ret (w1 := []) (xN_av (av_cons (lc_filter .int (rg a) (fun n => insB (agI a ps ns) (agI a ps [n])) rfl rfl (rg_ev (xIx_ev (xVar_ev rfl) g0) h1 ha) (fun n hn => ?_) fun d => xVar_ev rfl) av_nil) rfl) (.inl ⟨[], rfl⟩)
  have b := rg_mem.mp hn
  exact tBool_ev (callP_av (av_cons (xVar_ev rfl) (av_cons (callP_av (ds := [rulesD a ps, rowI [n]]) (av_cons (xVar_ev rfl) (av_cons (tup_av (av_cons (xVar_ev rfl) av_nil)) av_nil)) (ag_eq G h1 ha (fun m hm => by rw [List.mem_singleton.mp hm]; exact b) (by simp))) av_nil)) (has_row (ag_sm ha ps ns) (by decide)))
theorem full_ok {a : Int} {ps : List (Int × Int)} (G : GoodP a ps) (h1 : 1 ≤ a) (ha : a ≤ 12) {p : List Int × List Int} (M : MD a p.1 p.2) : F_full [rulesD a ps, mdP p] = some (mdP (wid a ps p.1, wid a ps p.2)) := by
  have g0 : gIx (mdP p) (.int 0) = some (rowI p.1) := rfl
  have g1 : gIx (mdP p) (.int 1) = some (rowI p.2) := rfl
  have f1 := widened_ok G h1 ha M.ho M.lo
  have f2 := widened_ok G h1 ha M.hm M.lm
  exact fnP_q (sq_ret (w1 := []) (tup_av (av_cons (callP_av (av_cons (xVar_ev rfl) (av_cons (xIx_ev (xVar_ev rfl) g0) av_nil)) f1) (av_cons (callP_av (av_cons (xVar_ev rfl) (av_cons (xIx_ev (xVar_ev rfl) g1) av_nil)) f2) av_nil))) (.inl ⟨[], rfl⟩))
def lotsI : Nat → List (List Int)
  | 0 => [[]]
  | n + 1 => lotsI n ++ (lotsI n).map fun l => l ++ [(n : Int)]
def rlt (x y : List Int) : Bool := PySem.W.dataLt (rowI x) (rowI y)
def insR (x : List Int) : List (List Int) → List (List Int)
  | [] => [x]
  | y :: r => if rlt y x then y :: insR x r else x :: y :: r
def lotsS (n : Nat) : List (List Int) := (lotsI n).foldr insR []
theorem insR_perm (x : List Int) : ∀ r : List (List Int), (insR x r).Perm (x :: r)
  | [] => List.Perm.refl _
  | y :: r => by
    unfold insR
    split
    · exact ((insR_perm x r).cons y).trans (List.Perm.swap x y r)
    · exact List.Perm.refl _
theorem lotsS_perm (n : Nat) : (lotsS n).Perm (lotsI n) := by
  unfold lotsS
  generalize lotsI n = L
  induction L with
  | nil => exact List.Perm.refl _
  | cons x r ih => exact (insR_perm x _).trans (ih.cons x)
theorem lots_mem : ∀ {n : Nat} {l : List Int}, l ∈ lotsI n ↔ l.Pairwise (· < ·) ∧ ∀ k ∈ l, 0 ≤ k ∧ k < (n : Int)
  | 0, l => by
    unfold lotsI
    rw [List.mem_singleton]
    constructor
    · rintro rfl
      exact ⟨.nil, fun k hk => nomatch hk⟩
    · rintro ⟨_, h⟩
      cases l with
      | nil => rfl
      | cons x r =>
        have := h x (List.mem_cons_self ..)
        omega
  | n + 1, l => by
    unfold lotsI
    rw [List.mem_append, List.mem_map, lots_mem]
    constructor
    · rintro (⟨h1, h2⟩ | ⟨m, hm, rfl⟩)
      · exact ⟨h1, fun k hk => by have := h2 k hk; omega⟩
      · obtain ⟨h1, h2⟩ := lots_mem.mp hm
        refine ⟨List.pairwise_append.mpr ⟨h1, by simp, fun x hx y hy => ?_⟩, fun k hk => ?_⟩
        · rw [List.mem_singleton.mp hy]; exact (h2 x hx).2
        · rcases List.mem_append.mp hk with hk | hk
          · have := h2 k hk; omega
          · rw [List.mem_singleton.mp hk]; omega
    · rintro ⟨h1, h2⟩
      by_cases hn : (n : Int) ∈ l
      · right
        obtain ⟨s, t, rfl⟩ := List.append_of_mem hn
        obtain ⟨p1, p2, p3⟩ := List.pairwise_append.mp h1
        obtain rfl : t = [] := by
          cases t with
          | nil => rfl
          | cons y r =>
            have a1 := (List.pairwise_cons.mp p2).1 y (List.mem_cons_self ..)
            have a2 := h2 y (by simp)
            omega
        refine ⟨s, lots_mem.mpr ⟨p1, fun k hk => ?_⟩, rfl⟩
        have a1 := p3 k hk _ (List.mem_cons_self ..)
        have a2 := h2 k (List.mem_append_left _ hk)
        omega
      · left
        refine ⟨h1, fun k hk => ?_⟩
        have a2 := h2 k hk
        have : k ≠ (n : Int) := fun e => hn (e ▸ hk)
        omega
theorem lotsS_mem {n : Nat} {l : List Int} : l ∈ lotsS n ↔ l.Pairwise (· < ·) ∧ ∀ k ∈ l, 0 ≤ k ∧ k < (n : Int) := (lotsS_perm n).mem_iff.trans lots_mem
theorem lotsI_len : ∀ n : Nat, (lotsI n).length = 2 ^ n
  | 0 => rfl
  | n + 1 => by
    unfold lotsI
    rw [List.length_append, List.length_map, lotsI_len n, Nat.pow_succ]
    omega
theorem lots_len {n : Nat} (h : n ≤ 6) : (lotsI n).length ≤ 64 := by
  rw [lotsI_len]
  exact Nat.pow_le_pow_right (by decide) h
theorem all_lots_ok {n : Nat} (a : 1 ≤ n) (b : n ≤ 6) : F_all_lots [.int (n : Int)] = some (.list ((lotsI n).map rowI)) := by
  refine six_is (p := fun n => F_all_lots [.int (n : Int)] = some (.list ((lotsI n).map rowI))) ?_ ?_ ?_ ?_ ?_ ?_ a b <;> kernel_rfl
def nkR (ns : List Int) : NestedKey := .tup (ns.map .num)
theorem nks_nums : ∀ ns : List Int, nkOfs (ns.map .int) = some (ns.map .num)
  | [] => rfl
  | n :: r => by
    rw [List.map_cons, List.map_cons]
    unfold nkOfs
    rw [nks_nums r]
    rfl
theorem nk_row (ns : List Int) : nkOf (rowI ns) = some (nkR ns) := by
  show (match nkOfs (ns.map .int) with | some ks => some (NestedKey.tup ks) | none => none) = _
  rw [nks_nums]
  rfl
theorem nkR_data (ns : List Int) : (nkR ns).data = rowI ns := (nk_data _ _ (nk_row ns)).1
theorem depth_nums : ∀ ns : List Int, NestedKey.depthAll (ns.map .num) = 0
  | [] => rfl
  | n :: r => by
    rw [List.map_cons]
    unfold NestedKey.depthAll
    rw [depth_nums r]
    rfl
theorem nkR_depth (ns : List Int) : (nkR ns).depth ≤ 8 := by
  unfold nkR NestedKey.depth
  rw [depth_nums]
  decide
theorem nkR_inj {x y : List Int} (h : nkR x = nkR y) : x = y := by
  have := congrArg NestedKey.data h
  rw [nkR_data, nkR_data] at this
  have h2 : x.map PyData.int = y.map PyData.int := by injection this
  exact List.map_inj_right (fun a b e => by injection e) |>.mp h2
theorem rows_tupsOk (L : List (List Int)) : tupsOk (L.map rowI) = true := by
  unfold tupsOk
  simp only [Bool.and_eq_true, List.all_eq_true, decide_eq_true_eq]
  intro d hd
  obtain ⟨x, _, rfl⟩ := List.mem_map.mp hd
  refine ⟨⟨⟨?_, ?_⟩, fun e he => ?_⟩, rfl⟩
  · simp only [noDict, nd_ints]
  · exact Nat.le_trans (depth_tup (B := 0) fun d hd => by obtain ⟨n, hn, rfl⟩ := List.mem_map.mp hd; simp [PyData.depth]) (by decide)
  · obtain ⟨y, _, rfl⟩ := List.mem_map.mp he
    simp only [PySem.W.alike, alike_ints]
theorem rlt_or {x y : List Int} (h : x ≠ y) : rlt x y = true ∨ rlt y x = true := lt_or (by simp only [PySem.W.alike, alike_ints]) (by rw [row_eqv]; exact decide_eq_false h)
theorem rlt_irr (x : List Int) : rlt x x = false := (PyProof.Rows.listOrd itemOrd).irrefl _
/-- the rows of a set, sorted -/
theorem sort_rows {R : List (List Int)} (nd : R.Nodup) : ∃ W : List (List Int), sortD (R.map rowI) = W.map rowI ∧ W.Perm R ∧ W.Pairwise fun x y => rlt x y = true := by
  obtain ⟨W, p, e⟩ := perm_map (f := rowI) (show (sortD (R.map rowI)).Perm (R.map rowI) from List.mergeSort_perm _ _)
  refine ⟨W, e, p, ?_⟩
  have pw := sortD_pw (R.map rowI)
  rw [e] at pw
  refine ((List.pairwise_map.mp pw).and (p.nodup_iff.mpr nd)).imp fun {x y} ⟨h1, h2⟩ => (rlt_or h2).elim id fun h => ?_
  have h1 : rlt y x = false := h1
  rw [h1] at h
  cases h
theorem keys_rows : ∀ {ks : List NestedKey}, (∀ k ∈ ks, ∃ ns, k = nkR ns) → ∃ R : List (List Int), ks = R.map nkR
  | [], _ => ⟨[], rfl⟩
  | k :: r, h => by
    obtain ⟨ns, rfl⟩ := h k (List.mem_cons_self ..)
    obtain ⟨R, rfl⟩ := keys_rows fun k hk => h k (List.mem_cons_of_mem _ hk)
    exact ⟨ns :: R, rfl⟩
/-- sorted keys that are rows -/
theorem sortK_rows {ks : List NestedKey} (nd : ks.Nodup) (h : ∀ k ∈ ks, ∃ ns, k = nkR ns) : ∃ W : List (List Int), sortK ks = W.map rowI ∧ tupsOk (ks.map NestedKey.data) = true ∧ (W.Pairwise fun x y => rlt x y = true) ∧ ∀ x, x ∈ W ↔ nkR x ∈ ks := by
  obtain ⟨R, rfl⟩ := keys_rows h
  have e : (R.map nkR).map NestedKey.data = R.map rowI := by
    rw [List.map_map]
    exact List.map_congr_left fun x _ => nkR_data x
  have ndR : R.Nodup := (List.pairwise_map.mp nd).imp fun h e => h (congrArg nkR e)
  obtain ⟨W, e1, p, pw⟩ := sort_rows ndR
  refine ⟨W, ?_, by rw [e]; exact rows_tupsOk R, pw, fun x => ?_⟩
  · unfold sortK
    rw [e, e1]
  · rw [p.mem_iff, List.mem_map]
    exact ⟨fun hx => ⟨x, hx, rfl⟩, fun ⟨y, hy, ey⟩ => nkR_inj ey ▸ hy⟩
theorem ga_rows {x : X1} {e0 : DE} {w : Wd} (f : List Int → List Int) : ∀ (L : List (List Int)) (acc : List NestedKey), (∀ l ∈ L, ∃ E, gN 2 (rowI l) e0 = some E ∧ x E w = some (.v (rowI (f l)), w)) → acc.length + L.length ≤ 75 →
    ∃ acc', gaGo (gN 2) tTrue (pxN x) e0 (L.map rowI) acc w = some (acc', w) ∧ (acc.Nodup → acc'.Nodup) ∧ ∀ k, k ∈ acc' ↔ k ∈ acc ∨ ∃ l ∈ L, k = nkR (f l)
  | [], acc, _, _ => ⟨acc, rfl, id, fun k => by simp⟩
  | l :: r, acc, h, hl => by
    obtain ⟨E, q1, q2⟩ := h l (List.mem_cons_self ..)
    rw [List.length_cons] at hl
    have px : pxN x E w acc = some (if nkR (f l) ∈ acc then acc else acc ++ [nkR (f l)], w) := by
      unfold pxN
      rw [q2]
      simp only [nk_row]
      rw [if_pos ⟨by omega, rfl, nkR_depth _⟩]
    have len : (if nkR (f l) ∈ acc then acc else acc ++ [nkR (f l)]).length + r.length ≤ 75 := by
      split
      · omega
      · rw [List.length_append, List.length_singleton]; omega
    obtain ⟨acc', g1, g2, g3⟩ := ga_rows f r _ (fun m hm => h m (List.mem_cons_of_mem _ hm)) len
    refine ⟨acc', ?_, fun nd => g2 ?_, fun k => ?_⟩
    · rw [List.map_cons]
      unfold gaGo
      rw [q1]
      simp only [tTrue, px]
      exact g1
    · split
      · exact nd
      · rename_i hn
        rw [List.nodup_append]
        exact ⟨nd, by simp, fun a ha b hb e => hn (by rw [List.mem_singleton.mp hb] at e; exact e ▸ ha)⟩
    · rw [g3]
      by_cases hn : nkR (f l) ∈ acc
      · rw [if_pos hn]
        constructor
        · rintro (h1 | ⟨m, hm, rfl⟩)
          · exact .inl h1
          · exact .inr ⟨m, List.mem_cons_of_mem _ hm, rfl⟩
        · rintro (h1 | ⟨m, hm, rfl⟩)
          · exact .inl h1
          · rcases List.mem_cons.mp hm with rfl | hm
            · exact .inl hn
            · exact .inr ⟨m, hm, rfl⟩
      · rw [if_neg hn, List.mem_append, List.mem_singleton]
        constructor
        · rintro ((h1 | h1) | ⟨m, hm, rfl⟩)
          · exact .inl h1
          · exact .inr ⟨l, List.mem_cons_self .., h1⟩
          · exact .inr ⟨m, List.mem_cons_of_mem _ hm, rfl⟩
        · rintro (h1 | ⟨m, hm, rfl⟩)
          · exact .inl (.inl h1)
          · rcases List.mem_cons.mp hm with rfl | hm
            · exact .inl (.inr rfl)
            · exact .inr ⟨m, hm, rfl⟩
def pairsW (W : List (List Int)) : List (List Int × List Int) := W.flatMap fun x => (W.filter fun y => insB y x).map fun y => (x, y)
def mlt (p q : List Int × List Int) : Bool := PySem.W.dataLt (mdP p) (mdP q)
theorem rows_alike (x y : List Int) : PySem.W.alike (rowI x) (rowI y) = true := by simp only [PySem.W.alike, alike_ints]
theorem mlt_fst {p q : List Int × List Int} (h : rlt p.1 q.1 = true) : mlt p q = true := by
  have ne : PyData.eqv (rowI p.1) (rowI q.1) = false := by
    rw [row_eqv]
    refine decide_eq_false fun e => ?_
    rw [e, rlt_irr] at h
    cases h
  have := PySem.W.dataLt_tuple [rowI p.1, rowI p.2] [rowI q.1, rowI q.2]
  rw [PySem.W.dataLt_cons (rows_alike _ _), ne, if_neg Bool.false_ne_true] at this
  exact this.trans h
theorem mlt_snd {p q : List Int × List Int} (e : p.1 = q.1) (h : rlt p.2 q.2 = true) : mlt p q = true := by
  have ne : PyData.eqv (rowI p.2) (rowI q.2) = false := by
    rw [row_eqv]
    refine decide_eq_false fun e => ?_
    rw [e, rlt_irr] at h
    cases h
  have eq : PyData.eqv (rowI p.1) (rowI q.1) = true := by
    rw [row_eqv, e]
    exact decide_eq_true rfl
  have := PySem.W.dataLt_tuple [rowI p.1, rowI p.2] [rowI q.1, rowI q.2]
  rw [PySem.W.dataLt_cons (rows_alike _ _), eq, if_pos rfl, PySem.W.dataLt_cons (rows_alike _ _), ne, if_neg Bool.false_ne_true] at this
  exact this.trans h
theorem pairs_pw {W : List (List Int)} (h : W.Pairwise fun x y => rlt x y = true) : (pairsW W).Pairwise fun p q => mlt p q = true := by
  unfold pairsW
  refine List.pairwise_flatMap.mpr ⟨fun x _ => List.pairwise_map.mpr ((h.filter _).imp fun {u v} h => mlt_snd (p := (x, u)) (q := (x, v)) rfl h), h.imp fun {x y} hxy p hp q hq => ?_⟩
  obtain ⟨_, _, rfl⟩ := List.mem_map.mp hp
  obtain ⟨_, _, rfl⟩ := List.mem_map.mp hq
  exact mlt_fst hxy
theorem pairs_mem {W : List (List Int)} {p : List Int × List Int} : p ∈ pairsW W ↔ p.1 ∈ W ∧ p.2 ∈ W ∧ ∀ k ∈ p.1, k ∈ p.2 := by
  unfold pairsW
  rw [List.mem_flatMap]
  constructor
  · rintro ⟨x, hx, h⟩
    obtain ⟨y, hy, rfl⟩ := List.mem_map.mp h
    obtain ⟨h1, h2⟩ := List.mem_filter.mp hy
    exact ⟨hx, h1, ins_iff.mp h2⟩
  · rintro ⟨h1, h2, h3⟩
    exact ⟨p.1, h1, List.mem_map.mpr ⟨p.2, List.mem_filter.mpr ⟨h2, ins_iff.mpr h3⟩, rfl⟩⟩
theorem mds_tupsOk (L : List (List Int × List Int)) : tupsOk (L.map mdP) = true := by
  unfold tupsOk
  simp only [Bool.and_eq_true, List.all_eq_true, decide_eq_true_eq]
  intro d hd
  obtain ⟨x, _, rfl⟩ := List.mem_map.mp hd
  have dr : ∀ ns : List Int, (rowI ns).depth ≤ 1 := fun ns => depth_tup (B := 0) fun d hd => by obtain ⟨n, hn, rfl⟩ := List.mem_map.mp hd; simp [PyData.depth]
  refine ⟨⟨⟨?_, Nat.le_trans (depth_tup (B := 1) (all2 (dr _) (dr _))) (by decide)⟩, fun e he => ?_⟩, rfl⟩
  · simp only [noDict, noDict.noDictA, nd_ints, Bool.and_self]
  · obtain ⟨y, _, rfl⟩ := List.mem_map.mp he
    simp only [PySem.W.alike, PySem.W.alikeAll, alike_ints, Bool.and_self]
theorem mlt_asym {p q : List Int × List Int} (h : mlt p q = true) : mlt q p = false := lt_asym h
structure WP (a : Int) (ps : List (Int × Int)) (n : Nat) (W : List (List Int)) : Prop where
  pw : W.Pairwise fun x y => rlt x y = true
  mem : ∀ x, x ∈ W ↔ ∃ m ∈ lotsI n, x = wid a ps m
theorem WP.row {a : Int} {ps : List (Int × Int)} {n : Nat} {W : List (List Int)} (h : WP a ps n W) {x : List Int} (hx : x ∈ W) : (∀ k ∈ x, 0 ≤ k ∧ k < a) ∧ x.Pairwise (· < ·) := by
  obtain ⟨m, _, rfl⟩ := (h.mem x).mp hx
  exact ⟨wid_in a ps m, wid_pw a ps m⟩
theorem WP.len {a : Int} {ps : List (Int × Int)} {n : Nat} {W : List (List Int)} (h : WP a ps n W) (hn : n ≤ 6) : W.length ≤ 64 := by
  have nd : (W.map nkR).Nodup := List.pairwise_map.mpr (h.pw.imp fun {x y} h e => by
    rw [nkR_inj e, rlt_irr] at h
    cases h)
  have := nodup_le nd (b := (lotsI n).map fun m => nkR (wid a ps m)) fun k hk => by
    obtain ⟨x, hx, rfl⟩ := List.mem_map.mp hk
    obtain ⟨m, hm, rfl⟩ := (h.mem x).mp hx
    exact List.mem_map_of_mem (f := fun m => nkR (wid a ps m)) hm
  rw [List.length_map, List.length_map] at this
  exact Nat.le_trans this (lots_len hn)
theorem wide_prog {a : Int} {ps : List (Int × Int)} (G : GoodP a ps) {n : Nat} (ha : a = (n : Int)) (h1 : 1 ≤ n) (h6 : n ≤ 6) : ∃ W, WP a ps n W ∧ xSrtN [2] (iSeq (xCallP (F_all_lots) (aCons (x2 gIx (xVar 0) (xC (.int 0))) aNil))) (gN 2) tTrue (xCallP (F_widened) (aCons (xVar 0) (aCons (xVar 2) aNil))) [some (.v (rulesD a ps)), none, none, none, none] [] = some (.v (.list (W.map rowI)), []) := by
  subst ha
  have g0 : gIx (rulesD (n : Int) ps) (.int 0) = some (.int (n : Int)) := rfl
  have al := all_lots_ok h1 h6
  obtain ⟨acc, g1, g2, g3⟩ := ga_rows (x := xCallP (F_widened) (aCons (xVar 0) (aCons (xVar 2) aNil))) (e0 := [some (.v (rulesD (n : Int) ps)), none, none, none, none]) (w := []) (wid (n : Int) ps) (lotsI n) [] (fun l hl => by
    obtain ⟨p1, p2⟩ := lots_mem.mp hl
    have := asc_len p1 p2
    exact ⟨_, gN_ev rfl, callP_av (av_cons (xVar_ev rfl) (av_cons (xVar_ev rfl) av_nil)) (widened_ok G (by omega) (by omega) p2 (by omega))⟩) (by have := lots_len h6; simp only [List.length_nil]; omega)
  obtain ⟨W, e, ok, pw, mem⟩ := sortK_rows (g2 .nil) fun k hk => by
    rcases (g3 k).mp hk with h | ⟨l, _, rfl⟩
    · cases h
    · exact ⟨_, rfl⟩
  refine ⟨W, ⟨pw, fun x => ?_⟩, ?_⟩
  · rw [mem, g3]
    constructor
    · rintro (h | ⟨l, hl, e⟩)
      · cases h
      · exact ⟨l, hl, nkR_inj e⟩
    · rintro ⟨m, hm, rfl⟩
      exact .inr ⟨m, hm, rfl⟩
  · have src : iSeq (xCallP (F_all_lots) (aCons (x2 gIx (xVar 0) (xC (.int 0))) aNil)) [some (.v (rulesD (n : Int) ps)), none, none, none, none] [] = some ((lotsI n).map rowI, []) := iSeq_lst (callP_av (av_cons (xIx_ev (xVar_ev rfl) g0) av_nil) al)
    unfold xSrtN
    rw [if_pos (show okW [some (.v (rulesD (n : Int) ps)), none, none, none, none] [2] = true from rfl), src]
    simp only [show wipeE [some (.v (rulesD (n : Int) ps)), none, none, none, none] [2] = [some (.v (rulesD (n : Int) ps)), none, none, none, none] from rfl, g1, ok, e, if_true]
theorem WP.sm {a : Int} {ps : List (Int × Int)} {n : Nat} {W : List (List Int)} (h : WP a ps n W) (ha : a ≤ 12) {x : List Int} (hx : x ∈ W) : Sm 1 780 (rowI x) := by
  obtain ⟨h1, h2⟩ := h.row hx
  have := asc_len h2 h1
  exact sm_row (n := 12) (fun k hk => by have := h1 k hk; omega) (by omega)
theorem lc2_go {a : Int} {ps : List (Int × Int)} {n : Nat} {W : List (List Int)} (H : WP a ps n W) (ha : a ≤ 12) : ∀ R : List (List Int),
    lc2Go (gN 3) tTrue (iSeq (xVar 1)) (gN 4) (tBool (xCallP (F_has_all) (aCons (xVar 4) (aCons (xVar 3) aNil)))) (xTup (aCons (xVar 3) (aCons (xVar 4) aNil))) [4] [some (.v (rulesD a ps)), some (.v (.list (W.map rowI))), none, none, none] (R.map rowI) [] = some ((R.flatMap fun x => (W.filter fun y => insB y x).map fun y => (x, y)).map mdP, [])
  | [] => rfl
  | x :: r => by
    have ih := lc2_go H ha r
    have inner := lcGo_map (g := gN 4) (t := tBool (xCallP (F_has_all) (aCons (xVar 4) (aCons (xVar 3) aNil)))) (x := xTup (aCons (xVar 3) (aCons (xVar 4) aNil))) (e0 := [some (.v (rulesD a ps)), some (.v (.list (W.map rowI))), none, some (.v (rowI x)), none]) (w := []) rowI (fun y => insB y x) (fun y => mdP (x, y)) W fun y hy => ⟨_, gN_ev rfl, tBool_ev (callP_av (av_cons (xVar_ev rfl) (av_cons (xVar_ev rfl) av_nil)) (has_row (H.sm ha hy) (by decide))), fun _ => tup_av (av_cons (xVar_ev rfl) (av_cons (xVar_ev rfl) av_nil))⟩
    have inner2 : lcGo (gN 4) (tBool (xCallP F_has_all (aCons (xVar 4) (aCons (xVar 3) aNil)))) (xTup (aCons (xVar 3) (aCons (xVar 4) aNil))) (wipeE ([some (.v (rulesD a ps)), some (.v (.list (W.map rowI))), none, none, none].set 3 (some (.v (rowI x)))) [4]) (W.map rowI) [] = some ((W.filter fun y => insB y x).map fun y => mdP (x, y), []) := inner
    have it : iSeq (xVar 1) ([some (.v (rulesD a ps)), some (.v (.list (W.map rowI))), none, none, none].set 3 (some (.v (rowI x)))) [] = some (W.map rowI, []) := rfl
    rw [List.map_cons]
    unfold lc2Go
    rw [gN_ev (i := 3) (e := [some (.v (rulesD a ps)), some (.v (.list (W.map rowI))), none, none, none]) rfl]
    simp only [tTrue, it, inner2, ih]
    rw [if_pos (show okW ([some (.v (rulesD a ps)), some (.v (.list (W.map rowI))), none, none, none].set 3 (some (.v (rowI x)))) [4] = true from rfl), List.flatMap_cons, List.map_append, List.map_map]
    rfl
theorem pairs_len {W : List (List Int)} (h : W.length ≤ 64) : (pairsW W).length ≤ 4096 := by
  unfold pairsW
  rw [flat_len]
  have := sum_le (fun x => ((W.filter fun y => insB y x).map fun y => (x, y)).length) 64 (l := W) fun x _ => by
    show (List.map _ _).length ≤ 64
    rw [List.length_map]
    exact Nat.le_trans (List.length_filter_le ..) h
  have h2 : W.length * 64 ≤ 64 * 64 := Nat.mul_le_mul_right _ h
  omega
theorem kinds_ok {a : Int} {ps : List (Int × Int)} (G : GoodP a ps) {n : Nat} (ha : a = (n : Int)) (h1 : 1 ≤ n) (h6 : n ≤ 6) : ∃ W, WP a ps n W ∧ F_kinds [rulesD a ps] = some (.tuple ((pairsW W).map mdP)) := by
  obtain ⟨W, H, q⟩ := wide_prog G ha h1 h6
  refine ⟨W, H, fnP_q ?_⟩
  refine sq_set (w1 := []) q ?_
  show SQ _ [some (.v (rulesD a ps)), some (.v (.list (W.map rowI))), none, none, none] _ _
  have e1 : xLc2 [3, 4] [4] (iSeq (xVar 1)) (gN 3) tTrue (iSeq (xVar 1)) (gN 4) (tBool (xCallP (F_has_all) (aCons (xVar 4) (aCons (xVar 3) aNil)))) (xTup (aCons (xVar 3) (aCons (xVar 4) aNil))) [some (.v (rulesD a ps)), some (.v (.list (W.map rowI))), none, none, none] [] = some (.v (.list ((pairsW W).map mdP)), []) := by
    unfold xLc2
    rw [if_pos (show okW [some (.v (rulesD a ps)), some (.v (.list (W.map rowI))), none, none, none] [3, 4] = true from rfl), iSeq_lst (xVar_ev rfl)]
    simp only [show wipeE [some (.v (rulesD a ps)), some (.v (.list (W.map rowI))), none, none, none] [3, 4] = [some (.v (rulesD a ps)), some (.v (.list (W.map rowI))), none, none, none] from rfl, lc2_go H (by omega) W]
    rw [if_pos]
    · rfl
    · rw [List.length_map]
      have := pairs_len (H.len h6)
      unfold pairsW at this
      show _ ≤ 1000000
      omega
  exact sq_ret (w1 := []) (xN_av (av_cons e1 av_nil) rfl) (.inl ⟨[], rfl⟩)
theorem row6 {a : Int} (ha : a ≤ 6) {x : List Int} (h1 : ∀ k ∈ x, 0 ≤ k ∧ k < a) (h2 : x.Pairwise (· < ·)) : Sm 1 390 (rowI x) := by
  have := asc_len h2 h1
  exact sm_row (n := 6) (fun k hk => by have := h1 k hk; omega) (by omega)
theorem md6 {a : Int} (ha : a ≤ 6) {p : List Int × List Int} (h1 : ∀ k ∈ p.1, 0 ≤ k ∧ k < a) (h2 : p.1.Pairwise (· < ·)) (h3 : ∀ k ∈ p.2, 0 ≤ k ∧ k < a) (h4 : p.2.Pairwise (· < ·)) : Sm 2 782 (mdP p) :=
  sm_tup (n := 2) (D := 1) (B := 390) (all2 (row6 ha h1 h2) (row6 ha h3 h4)) (by simp)
theorem nodup_leG {α : Type} [DecidableEq α] : ∀ {a b : List α}, a.Nodup → (∀ x ∈ a, x ∈ b) → a.length ≤ b.length
  | [], _, _, _ => Nat.zero_le _
  | x :: a, b, h, hs => by
    obtain ⟨h1, h2⟩ := List.nodup_cons.mp h
    have hx := hs x (List.mem_cons_self ..)
    have ih := nodup_leG (b := b.erase x) h2 fun y hy => (List.mem_erase_of_ne fun (e : y = x) => h1 (by rw [← e]; exact hy)).mpr (hs y (List.mem_cons_of_mem _ hy))
    rw [List.length_erase_of_mem hx] at ih
    have := List.length_pos_of_mem hx
    rw [List.length_cons]
    omega
def modesI (n : Nat) : List (List Int × List Int) := (lotsS n).flatMap fun m => ((lotsS n).filter fun o => insB m o).map fun o => (o, m)
theorem modes_mem {n : Nat} {p : List Int × List Int} : p ∈ modesI n ↔ p.1 ∈ lotsS n ∧ p.2 ∈ lotsS n ∧ ∀ k ∈ p.1, k ∈ p.2 := by
  unfold modesI
  rw [List.mem_flatMap]
  constructor
  · rintro ⟨m, hm, h⟩
    obtain ⟨o, ho, rfl⟩ := List.mem_map.mp h
    obtain ⟨h1, h2⟩ := List.mem_filter.mp ho
    exact ⟨h1, hm, ins_iff.mp h2⟩
  · rintro ⟨h1, h2, h3⟩
    exact ⟨p.2, h2, List.mem_map.mpr ⟨p.1, List.mem_filter.mpr ⟨h1, ins_iff.mpr h3⟩, rfl⟩⟩
theorem modes_len {n : Nat} (a : 1 ≤ n) (b : n ≤ 6) : (modesI n).length ≤ 729 := by
  refine six_is (p := fun n => (modesI n).length ≤ 729) ?_ ?_ ?_ ?_ ?_ ?_ a b <;> decide +kernel
theorem sort_mds2 {L : List (List Int × List Int)} (nd : L.Nodup) : ∃ M : List (List Int × List Int), M.Perm L ∧ (M.Pairwise fun p q => mlt p q = true) ∧ sortD (L.map mdP) = M.map mdP := by
  obtain ⟨M, p, e⟩ := perm_map (f := mdP) (show (sortD (L.map mdP)).Perm (L.map mdP) from List.mergeSort_perm _ _)
  refine ⟨M, p, ?_, e⟩
  have pw := sortD_pw (L.map mdP)
  rw [e] at pw
  refine ((List.pairwise_map.mp pw).and (p.nodup_iff.mpr nd)).imp fun {x y} ⟨h1, h2⟩ => ?_
  have ne : PyData.eqv (mdP x) (mdP y) = false := by
    cases q : PyData.eqv (mdP x) (mdP y) with
    | false => rfl
    | true =>
      exfalso
      have q : PyData.eqvAll [rowI x.1, rowI x.2] [rowI y.1, rowI y.2] = true := q
      simp only [PyData.eqvAll, row_eqv, Bool.and_true, Bool.and_eq_true, decide_eq_true_eq] at q
      exact h2 (Prod.ext q.1 q.2)
  rcases lt_or (x := mdP x) (y := mdP y) (by simp only [PySem.W.alike, PySem.W.alikeAll, alike_ints, Bool.and_self]) ne with h | h
  · exact h
  · have h1 : PySem.W.dataLt (mdP y) (mdP x) = false := h1
    rw [h1] at h
    cases h
theorem mds_one {V W : List (List Int × List Int)} (h1 : V.Pairwise fun p q => mlt p q = true) (h2 : W.Pairwise fun p q => mlt p q = true) (hm : ∀ x, x ∈ V ↔ x ∈ W) : V = W := by
  have irr : ∀ p, mlt p p = false := fun p => (PyProof.Rows.listOrd itemOrd).irrefl _
  have nd : ∀ {L : List (List Int × List Int)}, (L.Pairwise fun x y => mlt x y = true) → L.Nodup := fun h => h.imp fun {x y} h e => by
    rw [e, irr] at h
    cases h
  have as : ∀ {L : List (List Int × List Int)}, (L.Pairwise fun x y => mlt x y = true) → L.Pairwise fun x y => mlt y x = false := fun h => h.imp fun h => mlt_asym h
  have pm := (List.perm_ext_iff_of_nodup (nd h1) (nd h2)).mpr hm
  refine pw_uniq (lt := mlt) pm (fun x hx y hy => ?_) (as h1) (as h2)
  by_cases e : x = y
  · exact .inl e
  · exact .inr ((pw_two h1 hx hy e).elim .inl .inr)
structure EP1 (n : Nat) (E : List (List Int × List Int)) : Prop where
  pw : E.Pairwise fun p q => mlt p q = true
  mem : ∀ p, p ∈ E ↔ p.1 ∈ lotsS n ∧ p.2 ∈ lotsS n ∧ ∀ k ∈ p.1, k ∈ p.2
  ln : E.length = (modesI n).length
theorem EP1.mr {n : Nat} (hn : n ≤ 12) {E : List (List Int × List Int)} (H : EP1 n E) {p : List Int × List Int} (hp : p ∈ E) : MR (n : Int) p := by
  obtain ⟨h1, h2, h3⟩ := (H.mem p).mp hp
  obtain ⟨a1, a2⟩ := lotsS_mem.mp h1
  obtain ⟨b1, b2⟩ := lotsS_mem.mp h2
  have l1 := asc_len a1 a2
  have l2 := asc_len b1 b2
  exact ⟨⟨a2, b2, by omega, by omega⟩, h3, a1, b1⟩
theorem EP1.of {n : Nat} {E : List (List Int × List Int)} (H : EP1 n E) {p : List Int × List Int} (h1 : p.1.Pairwise (· < ·)) (h2 : ∀ k ∈ p.1, 0 ≤ k ∧ k < (n : Int)) (h3 : p.2.Pairwise (· < ·)) (h4 : ∀ k ∈ p.2, 0 ≤ k ∧ k < (n : Int)) (h5 : ∀ k ∈ p.1, k ∈ p.2) : p ∈ E := (H.mem p).mpr ⟨lotsS_mem.mpr ⟨h1, h2⟩, lotsS_mem.mpr ⟨h3, h4⟩, h5⟩
theorem go_ag {n : Nat} {ps : List (Int × Int)} (G : GoodP (n : Int) ps) {p q : List Int × List Int} (Mq : MR (n : Int) q) (Mp : MR (n : Int) p) : goB ps p q = true ↔ (∀ y ∈ q.2, y ∉ agI (n : Int) ps p.1) ∧ ∀ y ∈ q.1, y ∉ agI (n : Int) ps p.2 := by
  rw [go_iff]
  constructor
  · rintro ⟨h1, h2⟩
    refine ⟨fun y hy h => ?_, fun y hy h => ?_⟩
    · obtain ⟨_, x, hx, e⟩ := (ag_mem G _ _).mp h
      rw [hindB_comm, h1 x hx y hy] at e
      cases e
    · obtain ⟨_, x, hx, e⟩ := (ag_mem G _ _).mp h
      rw [h2 y hy x hx] at e
      cases e
  · rintro ⟨h1, h2⟩
    refine ⟨fun x hx y hy => ?_, fun x hx y hy => ?_⟩
    · cases e : hindB ps x y with
      | false => rfl
      | true => exact absurd ((ag_mem G _ _).mpr ⟨Mq.md.hm y hy, x, hx, by rw [hindB_comm]; exact e⟩) (h1 y hy)
    · cases e : hindB ps x y with
      | false => rfl
      | true => exact absurd ((ag_mem G _ _).mpr ⟨Mq.md.ho x hx, y, hy, e⟩) (h2 x hx)
theorem ag_mono {n : Nat} {ps : List (Int × Int)} (G : GoodP (n : Int) ps) {x y : List Int} (h : ∀ k ∈ x, k ∈ y) : ∀ k ∈ agI (n : Int) ps x, k ∈ agI (n : Int) ps y := fun k hk => by
  obtain ⟨h1, z, hz, e⟩ := (ag_mem G _ _).mp hk
  exact (ag_mem G _ _).mpr ⟨h1, z, h z hz, e⟩
def fuP (a : Int) (ps : List (Int × Int)) (p : List Int × List Int) : List Int × List Int := (wid a ps p.1, wid a ps p.2)
theorem wid_mem {n : Nat} {ps : List (Int × Int)} {x : List Int} {k : Int} : k ∈ wid (n : Int) ps x ↔ (0 ≤ k ∧ k < (n : Int)) ∧ ∀ y ∈ agI (n : Int) ps [k], y ∈ agI (n : Int) ps x := by
  unfold wid
  rw [List.mem_filter, rg_mem, ins_iff]
theorem wid_has {n : Nat} {ps : List (Int × Int)} (G : GoodP (n : Int) ps) {x : List Int} (h : ∀ k ∈ x, 0 ≤ k ∧ k < (n : Int)) : ∀ k ∈ x, k ∈ wid (n : Int) ps x := fun k hk => wid_mem.mpr ⟨h k hk, ag_mono G fun z hz => by rw [List.mem_singleton.mp hz]; exact hk⟩
theorem ag_wid {n : Nat} {ps : List (Int × Int)} (G : GoodP (n : Int) ps) {x : List Int} (h : ∀ k ∈ x, 0 ≤ k ∧ k < (n : Int)) : agI (n : Int) ps (wid (n : Int) ps x) = agI (n : Int) ps x := by
  refine sorted_one (ag_pw _ _ _) (ag_pw _ _ _) fun k => ⟨fun hk => ?_, fun hk => ag_mono G (wid_has G h) k hk⟩
  obtain ⟨h1, z, hz, e⟩ := (ag_mem G _ _).mp hk
  exact (wid_mem.mp hz).2 k ((ag_mem G _ _).mpr ⟨h1, z, by simp, e⟩)
theorem wid_mono {n : Nat} {ps : List (Int × Int)} (G : GoodP (n : Int) ps) {x y : List Int} (h : ∀ k ∈ x, k ∈ y) : ∀ k ∈ wid (n : Int) ps x, k ∈ wid (n : Int) ps y := fun k hk => by
  obtain ⟨h1, h2⟩ := wid_mem.mp hk
  exact wid_mem.mpr ⟨h1, fun z hz => ag_mono G h z (h2 z hz)⟩
theorem wid_ag {n : Nat} {ps : List (Int × Int)} {x y : List Int} (h : agI (n : Int) ps x = agI (n : Int) ps y) : wid (n : Int) ps x = wid (n : Int) ps y := by
  unfold wid
  rw [h]
theorem eq_rows2 {a b c d : List Int} (h1 : Sm 1 780 (rowI a)) (h2 : Sm 1 780 (rowI b)) (h3 : Sm 1 780 (rowI c)) (h4 : Sm 1 780 (rowI d)) : gEqS (.list [rowI a, rowI b]) (.list [rowI c, rowI d]) = some (.bool (decide (a = c ∧ b = d))) := by
  show gEq _ _ = _
  unfold gEq
  rw [show SeqAt.shaped (.list [rowI a, rowI b]) = true from (sm_lst (n := 2) (all2 h1 h2) (by simp)).shaped (by decide), show SeqAt.shaped (.list [rowI c, rowI d]) = true from (sm_lst (n := 2) (all2 h3 h4) (by simp)).shaped (by decide)]
  show some (PyData.bool (PyData.eqvAll [rowI a, rowI b] [rowI c, rowI d])) = _
  simp only [PyData.eqvAll, row_eqv, Bool.and_true, Bool.decide_and]
theorem alike_ok {n : Nat} (h1 : 1 ≤ n) (hn : n ≤ 12) {ps : List (Int × Int)} (G : GoodP (n : Int) ps) {p q : List Int × List Int} (Mp : MD (n : Int) p.1 p.2) (Mq : MD (n : Int) q.1 q.2) : F_alike [rulesD (n : Int) ps, mdP p, mdP q] = some (.bool (decide (agI (n : Int) ps p.1 = agI (n : Int) ps q.1 ∧ agI (n : Int) ps p.2 = agI (n : Int) ps q.2))) := by
  have one : ∀ {p : List Int × List Int}, MD (n : Int) p.1 p.2 → ∀ x ∈ [p.1, p.2], F_against [rulesD (n : Int) ps, rowI x] = some (rowI (agI (n : Int) ps x)) := fun M x hx => by
    simp only [List.mem_cons, List.not_mem_nil, or_false] at hx
    rcases hx with rfl | rfl
    · exact ag_eq G (by omega) (by omega) M.ho M.lo
    · exact ag_eq G (by omega) (by omega) M.hm M.lm
  have s := fun x => ag_sm (a := (n : Int)) (by omega) ps x
  refine fnP_q (sq_ret (w1 := []) (x2_ev (lc_all rowI [p.1, p.2] (fun x => rowI (agI (n : Int) ps x)) rfl (iSeq_tup (xVar_ev rfl)) fun x hx => ⟨_, gN_ev rfl, callP_av (av_cons (xVar_ev rfl) (av_cons (xVar_ev rfl) av_nil)) (one Mp x hx)⟩) (lc_all rowI [q.1, q.2] (fun x => rowI (agI (n : Int) ps x)) rfl (iSeq_tup (xVar_ev rfl)) fun x hx => ⟨_, gN_ev rfl, callP_av (av_cons (xVar_ev rfl) (av_cons (xVar_ev rfl) av_nil)) (one Mq x hx)⟩) (eq_rows2 (s _) (s _) (s _) (s _))) (.inl ⟨[], rfl⟩))
def nkM (p : List Int × List Int) : NestedKey := .tup [nkR p.1, nkR p.2]
theorem nk_mode (p : List Int × List Int) : nkOf (mdP p) = some (nkM p) := by
  show (match nkOfs [rowI p.1, rowI p.2] with | some ks => some (NestedKey.tup ks) | none => none) = _
  have : nkOfs [rowI p.1, rowI p.2] = some [nkR p.1, nkR p.2] := by
    simp only [nkOfs, nk_row]
  rw [this]
  rfl
theorem nkM_data (p : List Int × List Int) : (nkM p).data = mdP p := (nk_data _ _ (nk_mode p)).1
theorem nkM_inj {x y : List Int × List Int} (h : nkM x = nkM y) : x = y := by
  unfold nkM at h
  injection h with h
  injection h with h1 h2
  injection h2 with h2 _
  exact Prod.ext (nkR_inj h1) (nkR_inj h2)
theorem nkM_depth (p : List Int × List Int) : (nkM p).depth ≤ 8 := by
  unfold nkM nkR
  simp only [NestedKey.depth, NestedKey.depthAll, depth_nums]
  decide
theorem nks_modes : ∀ L : List (List Int × List Int), nkOfs (L.map mdP) = some (L.map nkM)
  | [] => rfl
  | p :: r => by
    rw [List.map_cons, List.map_cons]
    unfold nkOfs
    rw [nk_mode, nks_modes r]
theorem keys_modes : ∀ {ks : List NestedKey}, (∀ k ∈ ks, ∃ p, k = nkM p) → ∃ R : List (List Int × List Int), ks = R.map nkM
  | [], _ => ⟨[], rfl⟩
  | k :: r, h => by
    obtain ⟨p, rfl⟩ := h k (List.mem_cons_self ..)
    obtain ⟨R, rfl⟩ := keys_modes fun k hk => h k (List.mem_cons_of_mem _ hk)
    exact ⟨p :: R, rfl⟩
theorem WP.lot {n : Nat} {ps : List (Int × Int)} {W : List (List Int)} (h : WP (n : Int) ps n W) {x : List Int} (hx : x ∈ W) : x ∈ lotsS n := by
  obtain ⟨h1, h2⟩ := h.row hx
  exact lotsS_mem.mpr ⟨h2, h1⟩
theorem pairs_729 {n : Nat} (h1 : 1 ≤ n) (h6 : n ≤ 6) {ps : List (Int × Int)} {W : List (List Int)} (H : WP (n : Int) ps n W) : (pairsW W).length ≤ 729 := by
  have nd : (pairsW W).Nodup := (pairs_pw H.pw).imp fun {x y} h e => by
    rw [e, show mlt y y = false from (PyProof.Rows.listOrd itemOrd).irrefl _] at h
    cases h
  refine Nat.le_trans (nodup_leG nd (b := modesI n) fun p hp => ?_) (modes_len h1 h6)
  obtain ⟨a1, a2, a3⟩ := pairs_mem.mp hp
  exact modes_mem.mpr ⟨H.lot a1, H.lot a2, a3⟩
theorem pairs_sm {n : Nat} (h1 : 1 ≤ n) (h6 : n ≤ 6) {ps : List (Int × Int)} {W : List (List Int)} (H : WP (n : Int) ps n W) : Sm 3 570807 (.tuple ((pairsW W).map mdP)) := by
  refine (sm_tup (n := 729) (D := 2) (B := 782) (fun d hd => ?_) (by rw [List.length_map]; exact pairs_729 h1 h6 H)).le (by decide) (by decide)
  obtain ⟨p, hp, rfl⟩ := List.mem_map.mp hd
  obtain ⟨a1, a2, _⟩ := pairs_mem.mp hp
  exact md6 (a := (n : Int)) (by omega) (H.row a1).1 (H.row a1).2 (H.row a2).1 (H.row a2).2
/-! k17: how few modes are enough -/
theorem modes_drawR {T a m : Int} {w : Wd} (D : Dk T w) (hT : T < 100000000) (a1 : 1 ≤ a) (a6 : a ≤ 6) (m1 : 1 ≤ m) (m12 : m ≤ 12) :
    ∃ (ms : List (List Int × List Int)) (w' : Wd), F_law_modes [.obj 0, .val (.int a), .val (.int m)] w = some (.val (.tuple (ms.map mdP)), w') ∧ (∀ p ∈ ms, MR a p) ∧ (ms.length : Int) ≤ m ∧ 1 ≤ ms.length ∧ Dk (T + 1 + 15 * m) w' := by
  obtain ⟨k, w1, D1, k1, k2, q1⟩ := takeN (m := m) D (by omega) m1 (by omega)
  obtain ⟨e3, w3, q3, i, c, ms, x, y, r1, r2, r3, rfl, rx, r5, r6, r6b, r7⟩ := sFor_inv (e := [some (.obj 0), some (.v (.int a)), some (.v (.int m)), some (.own []), none, none]) (w := w) (w1 := w1) (ds := rangeL 0 (1 + k).toNat)
    (it := iRange1 (x2 gAdd (xC (.int 1)) (xCallD (F_law_take) (aCons (xVar 0) (aCons (xVar 2) aNil))))) (g := gN 4)
    (s := sSeq (sSet 5 (xCallD (F_law_mode) (aCons (xVar 0) (aCons (xVar 1) aNil)))) (sIf (tBool (x2 (gIn true) (xVar 5) (xVar 3))) (sAppend 3 (xVar 5)) sNx))
    (fun rest e w => ∃ (i : Int) (c : Nat) (ms : List (List Int × List Int)) (x y : Option SV), rest = rangeL i c ∧ i + c = 1 + k ∧ 0 ≤ i ∧ e = [some (.obj 0), some (.v (.int a)), some (.v (.int m)), some (.own (ms.map mdP)), x, y] ∧ isOwn (some x) = false ∧ (∀ p ∈ ms, MR a p) ∧ (ms.length : Int) ≤ i ∧ (i = 0 ∨ 1 ≤ ms.length) ∧ Dk (T + 1 + 15 * i) w)
    (by
      have a2 := q1 0 (xVar 2) [some (.obj 0), some (.v (.int a)), some (.v (.int m)), some (.own []), none, none] rfl rfl
      have a3 : x2 gAdd (xC (.int 1)) (xCallD F_law_take (aCons (xVar 0) (aCons (xVar 2) aNil))) [some (.obj 0), some (.v (.int a)), some (.v (.int m)), some (.own []), none, none] w = some (.v (.int (1 + k)), w1) := x2_ev (c := .int 1) rfl a2 rfl
      simp only [iRange1, a3, small_in (show -1000000 ≤ 1 + k by omega) (show 1 + k ≤ 1000000 by omega), if_true])
    ⟨0, (1 + k).toNat, [], none, none, rfl, by omega, by decide, rfl, rfl, by simp, by simp, .inl rfl, D1.mono (by omega)⟩ (by
      rintro d r e w ⟨i, c, ms, x, y, h1', h2, h3, rfl, hx, h5, h6, h6b, h7⟩
      obtain ⟨c', rfl, rfl, rfl⟩ := rangeL_inv h1'
      refine ⟨_, gN_ev (by exact hx), ?_⟩
      obtain ⟨⟨o, mm⟩, w4, MRp, D4, q4⟩ := mode_drawR h7 (by omega) a1 a6
      have M : MD a o mm := MRp.md
      have e1 : sSet 5 (xCallD (F_law_mode) (aCons (xVar 0) (aCons (xVar 1) aNil))) [some (.obj 0), some (.v (.int a)), some (.v (.int m)), some (.own (ms.map mdP)), some (.v (.int i)), y] w = some (.nx [some (.obj 0), some (.v (.int a)), some (.v (.int m)), some (.own (ms.map mdP)), some (.v (.int i)), some (.v (mD o mm))] w4) :=
        sSet_ev (xCallD_ev (rs := [.obj 0, .v (.int a)]) (z := .val (mD o mm)) rfl rfl q4)
      have hin := in_some true (d := mD o mm) (c := .list (ms.map mdP)) rfl ((M.sm (by omega)).shaped (by decide)) (modes_shaped (by omega) (⟨fun p hp => (h5 p hp).md⟩ : Ms a ms) (by omega))
      generalize hb : (if true = true then !(ms.map mdP).any fun z => PyData.eqv z (mD o mm) else (ms.map mdP).any fun z => PyData.eqv z (mD o mm)) = b at hin
      have t1 : tBool (x2 (gIn true) (xVar 5) (xVar 3)) [some (.obj 0), some (.v (.int a)), some (.v (.int m)), some (.own (ms.map mdP)), some (.v (.int i)), some (.v (mD o mm))] w4 = some (b, w4) := by
        refine tBool_ev ?_
        simp only [x2, xVar, List.getElem?_cons_zero, List.getElem?_cons_succ, DL.valOf, hin, Option.map_some]
      have hl : (ms.map mdP).length < LIM := by
        rw [List.length_map]
        show ms.length < 1000000
        omega
      cases b with
      | true =>
        refine ⟨[some (.obj 0), some (.v (.int a)), some (.v (.int m)), some (.own ((ms ++ [(o, mm)]).map mdP)), some (.v (.int i)), some (.v (mD o mm))], w4, ?_, i + 1, c', ms ++ [(o, mm)], some (.v (.int i)), some (.v (mD o mm)), rfl, by omega, by omega, rfl, rfl, fun p hp => ?_, by rw [List.length_append, List.length_singleton]; omega, .inr (by rw [List.length_append, List.length_singleton]; omega), D4.mono (by omega)⟩
        · show sSeq _ _ [some (.obj 0), some (.v (.int a)), some (.v (.int m)), some (.own (ms.map mdP)), some (.v (.int i)), y] w = _
          rw [sSeq_nx e1, sIf_ev t1, if_pos rfl]
          simp only [List.set_cons_zero, List.set_cons_succ, sAppend, xVar, List.getElem?_cons_zero, List.getElem?_cons_succ, hl, if_true, List.map_append, List.map_cons, List.map_nil]
        · rcases List.mem_append.mp hp with hp | hp
          · exact h5 p hp
          · rw [List.mem_singleton.mp hp]
            exact MRp
      | false =>
        refine ⟨[some (.obj 0), some (.v (.int a)), some (.v (.int m)), some (.own (ms.map mdP)), some (.v (.int i)), some (.v (mD o mm))], w4, ?_, i + 1, c', ms, some (.v (.int i)), some (.v (mD o mm)), rfl, by omega, by omega, rfl, rfl, h5, by omega, .inr (by
          cases ms with
          | nil => simp at hb
          | cons p r => simp), D4.mono (by omega)⟩
        show sSeq _ _ [some (.obj 0), some (.v (.int a)), some (.v (.int m)), some (.own (ms.map mdP)), some (.v (.int i)), y] w = _
        rw [sSeq_nx e1, sIf_ev t1]
        rfl)
  have hn := rangeL_end r1
  subst hn
  refine ⟨ms, w3, ?_, r5, by omega, by omega, r7.mono (by omega)⟩
  unfold F_law_modes fnD B_law_modes
  show (match sSeq _ _ [some (.obj 0), some (.v (.int a)), some (.v (.int m)), none, none, none] w with | some (.rt r w') => some (r, w') | some (.nx _ w') => some (.val .none, w') | _ => none) = _
  rw [sSeq_nx (s := sOwn 3 _) (e1 := [some (.obj 0), some (.v (.int a)), some (.v (.int m)), some (.own []), none, none]) (w1 := w) rfl, sSeq_nx q3]
  rfl

theorem nkM_dry (p : List Int × List Int) : dryK (nkM p) = true := (nk_data _ _ (nk_mode p)).2
theorem sortK_modes {ks : List NestedKey} (nd : ks.Nodup) (h : ∀ k ∈ ks, ∃ p, k = nkM p) : ∃ V : List (List Int × List Int), sortK ks = V.map mdP ∧ tupsOk (ks.map NestedKey.data) = true ∧ (V.Pairwise fun x y => mlt x y = true) ∧ ∀ x, x ∈ V ↔ nkM x ∈ ks := by
  obtain ⟨R, rfl⟩ := keys_modes h
  have e : (R.map nkM).map NestedKey.data = R.map mdP := by
    rw [List.map_map]
    exact List.map_congr_left fun x _ => nkM_data x
  have ndR : R.Nodup := (List.pairwise_map.mp nd).imp fun h e => h (congrArg nkM e)
  obtain ⟨V, p, pw, e1⟩ := sort_mds2 ndR
  refine ⟨V, ?_, by rw [e]; exact mds_tupsOk R, pw, fun x => ?_⟩
  · unfold sortK
    rw [e, e1]
  · rw [p.mem_iff, List.mem_map]
    exact ⟨fun hx => ⟨x, hx, rfl⟩, fun ⟨y, hy, ey⟩ => nkM_inj ey ▸ hy⟩
theorem ga_modes {x : X1} {e0 : DE} {w : Wd} (f : List Int × List Int → List Int × List Int) : ∀ (L : List (List Int × List Int)) (acc : List NestedKey), (∀ l ∈ L, ∃ E, gN 2 (mdP l) e0 = some E ∧ x E w = some (.v (mdP (f l)), w)) → acc.length + L.length ≤ 75 →
    ∃ acc', gaGo (gN 2) tTrue (pxN x) e0 (L.map mdP) acc w = some (acc', w) ∧ (acc.Nodup → acc'.Nodup) ∧ ∀ k, k ∈ acc' ↔ k ∈ acc ∨ ∃ l ∈ L, k = nkM (f l)
  | [], acc, _, _ => ⟨acc, rfl, id, fun k => by simp⟩
  | l :: r, acc, h, hl => by
    obtain ⟨E, q1, q2⟩ := h l (List.mem_cons_self ..)
    rw [List.length_cons] at hl
    have px : pxN x E w acc = some (if nkM (f l) ∈ acc then acc else acc ++ [nkM (f l)], w) := by
      unfold pxN
      rw [q2]
      simp only [nk_mode]
      rw [if_pos ⟨by omega, rfl, nkM_depth _⟩]
    have len : (if nkM (f l) ∈ acc then acc else acc ++ [nkM (f l)]).length + r.length ≤ 75 := by
      split
      · omega
      · rw [List.length_append, List.length_singleton]; omega
    obtain ⟨acc', g1, g2, g3⟩ := ga_modes f r _ (fun m hm => h m (List.mem_cons_of_mem _ hm)) len
    refine ⟨acc', ?_, fun nd => g2 ?_, fun k => ?_⟩
    · rw [List.map_cons]
      unfold gaGo
      rw [q1]
      simp only [tTrue, px]
      exact g1
    · split
      · exact nd
      · rename_i hn
        rw [List.nodup_append]
        exact ⟨nd, by simp, fun a ha b hb e => hn (by rw [List.mem_singleton.mp hb] at e; exact e ▸ ha)⟩
    · rw [g3]
      by_cases hn : nkM (f l) ∈ acc
      · rw [if_pos hn]
        constructor
        · rintro (h1 | ⟨m, hm, rfl⟩)
          · exact .inl h1
          · exact .inr ⟨m, List.mem_cons_of_mem _ hm, rfl⟩
        · rintro (h1 | ⟨m, hm, rfl⟩)
          · exact .inl h1
          · rcases List.mem_cons.mp hm with rfl | hm
            · exact .inl hn
            · exact .inr ⟨m, hm, rfl⟩
      · rw [if_neg hn, List.mem_append, List.mem_singleton]
        constructor
        · rintro ((h1 | h1) | ⟨m, hm, rfl⟩)
          · exact .inl h1
          · exact .inr ⟨l, List.mem_cons_self .., h1⟩
          · exact .inr ⟨m, List.mem_cons_of_mem _ hm, rfl⟩
        · rintro (h1 | ⟨m, hm, rfl⟩)
          · exact .inl (.inl h1)
          · rcases List.mem_cons.mp hm with rfl | hm
            · exact .inl (.inr rfl)
            · exact .inr ⟨m, hm, rfl⟩
/-- the modes V, ascending, are the full ones of L -/
structure FW (n : Nat) (ps : List (Int × Int)) (L V : List (List Int × List Int)) : Prop where
  pw : V.Pairwise fun x y => mlt x y = true
  mem : ∀ x, x ∈ V ↔ ∃ p ∈ L, x = fuP (n : Int) ps p
theorem fewest_ok {n : Nat} (h1 : 1 ≤ n) (h12 : n ≤ 12) {ps : List (Int × Int)} (G : GoodP (n : Int) ps) {L : List (List Int × List Int)} (M : ∀ p ∈ L, MR (n : Int) p) (hl : L.length ≤ 75) : ∃ V, FW n ps L V ∧ F_fewest [rulesD (n : Int) ps, .tuple (L.map mdP)] = some (.tuple (V.map mdP)) := by
  obtain ⟨acc, g1, g2, g3⟩ := ga_modes (x := xCallP (F_full) (aCons (xVar 0) (aCons (xVar 2) aNil))) (e0 := [some (.v (rulesD (n : Int) ps)), some (.v (.tuple (L.map mdP))), none]) (w := []) (fuP (n : Int) ps) L [] (fun l hl =>
    ⟨_, gN_ev rfl, callP_av (av_cons (xVar_ev rfl) (av_cons (xVar_ev rfl) av_nil)) (full_ok G (by omega) (by omega) (M l hl).md)⟩) (by simp only [List.length_nil]; omega)
  obtain ⟨V, e, ok, pw, mem⟩ := sortK_modes (g2 .nil) fun k hk => by
    rcases (g3 k).mp hk with h | ⟨l, _, rfl⟩
    · cases h
    · exact ⟨_, rfl⟩
  refine ⟨V, ⟨pw, fun x => ?_⟩, fnP_q ?_⟩
  · rw [mem, g3]
    constructor
    · rintro (h | ⟨l, hl, e⟩)
      · cases h
      · exact ⟨l, hl, nkM_inj e⟩
    · rintro ⟨m, hm, rfl⟩
      exact .inr ⟨m, hm, rfl⟩
  · have src : iSeq (xVar 1) [some (.v (rulesD (n : Int) ps)), some (.v (.tuple (L.map mdP))), none] [] = some (L.map mdP, []) := iSeq_tup (xVar_ev rfl)
    have ev : xSrtN [2] (iSeq (xVar 1)) (gN 2) tTrue (xCallP (F_full) (aCons (xVar 0) (aCons (xVar 2) aNil))) [some (.v (rulesD (n : Int) ps)), some (.v (.tuple (L.map mdP))), none] [] = some (.v (.list (V.map mdP)), []) := by
      unfold xSrtN
      rw [if_pos (show okW [some (.v (rulesD (n : Int) ps)), some (.v (.tuple (L.map mdP))), none] [2] = true from rfl), src]
      simp only [show wipeE [some (.v (rulesD (n : Int) ps)), some (.v (.tuple (L.map mdP))), none] [2] = [some (.v (rulesD (n : Int) ps)), some (.v (.tuple (L.map mdP))), none] from rfl, g1, ok, e, if_true]
    exact sq_ret (w1 := []) (xN_av (av_cons ev av_nil) rfl) (.inl ⟨[], rfl⟩)
theorem set_modesB (L : List (List Int × List Int)) (hl : L.length ≤ 1190) : ∃ V : List (List Int × List Int), gSortSetN (.tuple (L.map mdP)) = some (.list (V.map mdP)) ∧ (V.Pairwise fun x y => mlt x y = true) ∧ ∀ x, x ∈ V ↔ x ∈ L := by
  obtain ⟨V, e, ok, pw, mem⟩ := sortK_modes (dedK_nodup (L.map nkM)) fun k hk => by
    obtain ⟨p, _, rfl⟩ := List.mem_map.mp ((dedK_mem _ _).mp hk)
    exact ⟨p, rfl⟩
  refine ⟨V, ?_, pw, fun x => ?_⟩
  · have l1 := nodup_le (dedK_nodup (L.map nkM)) (b := L.map nkM) fun x hx => (dedK_mem _ _).mp hx
    rw [List.length_map] at l1
    have c1 : (L.map mdP).all tupB = true := by
      rw [List.all_map, List.all_eq_true]
      exact fun _ _ => rfl
    have c2 : (L.map nkM).all (fun k => decide (k.depth ≤ 8)) = true := by
      rw [List.all_map, List.all_eq_true]
      exact fun m _ => decide_eq_true (nkM_depth _)
    show gSortK _ = _
    unfold gSortK
    rw [nks_modes]
    simp only
    rw [if_pos ⟨c1, c2, by omega, ok⟩, e]
  · rw [mem, dedK_mem, List.mem_map]
    exact ⟨fun ⟨y, hy, ey⟩ => nkM_inj ey ▸ hy, fun hx => ⟨x, hx, rfl⟩⟩
def alB (n : Nat) (ps : List (Int × Int)) (p q : List Int × List Int) : Bool := decide (agI (n : Int) ps p.1 = agI (n : Int) ps q.1 ∧ agI (n : Int) ps p.2 = agI (n : Int) ps q.2)
def cvB (p q : List Int × List Int) : Bool := insB p.1 q.1 && insB p.2 q.2
def svB (n : Nat) (ps : List (Int × Int)) (N L : List (List Int × List Int)) : Bool := N.all fun p => L.any fun q => cvB q p && alB n ps q p
theorem is_served_ok {n : Nat} (h1 : 1 ≤ n) (h12 : n ≤ 12) {ps : List (Int × Int)} (G : GoodP (n : Int) ps) {p : List Int × List Int} (Mp : MR (n : Int) p) {V : List (List Int × List Int)} (M : ∀ q ∈ V, MR (n : Int) q) : F_is_served [rulesD (n : Int) ps, mdP p, .list (V.map mdP)] = some (.bool (V.any fun q => cvB q p && alB n ps q p)) := by
  refine fnP_q (sq_ret (w1 := []) (xN_av (ds := [.list ((V.map fun q => cvB q p && alB n ps q p).map .bool)]) (av_cons ?_ av_nil) ?_) (.inl ⟨[], rfl⟩))
  · rw [List.map_map]
    refine lc_all mdP V (fun q => .bool (cvB q p && alB n ps q p)) rfl (iSeq_lst (xVar_ev rfl)) fun q hq => ⟨_, gN_ev rfl, ?_⟩
    have c1 : xCallP (F_covers) (aCons (xVar 3) (aCons (xVar 1) aNil)) [some (.v (rulesD (n : Int) ps)), some (.v (mdP p)), some (.v (.list (V.map mdP))), some (.v (mdP q))] [] = some (.v (.bool (cvB q p)), []) := callP_av (av_cons (xVar_ev rfl) (av_cons (xVar_ev rfl) av_nil)) (covers_P (a := (n : Int)) (by omega) (M q hq).md Mp.md)
    have c2 : xCallP (F_alike) (aCons (xVar 0) (aCons (xVar 3) (aCons (xVar 1) aNil))) [some (.v (rulesD (n : Int) ps)), some (.v (mdP p)), some (.v (.list (V.map mdP))), some (.v (mdP q))] [] = some (.v (.bool (alB n ps q p)), []) := callP_av (av_cons (xVar_ev rfl) (av_cons (xVar_ev rfl) (av_cons (xVar_ev rfl) av_nil))) (alike_ok h1 h12 G (M q hq).md Mp.md)
    show xAnd _ _ [some (.v (rulesD (n : Int) ps)), some (.v (mdP p)), some (.v (.list (V.map mdP))), some (.v (mdP q))] [] = _
    rw [xAnd_ev c1]
    cases cvB q p with
    | false => rfl
    | true => exact c2
  · simp only [gAny, boolsOf_map, Option.map_some, List.any_map]
    rfl
theorem w_md {a : Int} (ha : a ≤ 12) {p : List Int × List Int} (M : MR a p) : (mdP p).weight ≤ 100000 := Nat.le_trans (M.md.sm ha).wt (by decide)
theorem serves_ok {n : Nat} (h1 : 1 ≤ n) (h12 : n ≤ 12) {ps : List (Int × Int)} (G : GoodP (n : Int) ps) {N L : List (List Int × List Int)} (MN : ∀ p ∈ N, MR (n : Int) p) (M : ∀ q ∈ L, MR (n : Int) q) (hl : L.length ≤ 75) : F_serves [rulesD (n : Int) ps, .tuple (N.map mdP), .tuple (L.map mdP)] = some (.bool (svB n ps N L)) := by
  obtain ⟨V, g, _, mem⟩ := set_modesB L (by omega)
  have MV : ∀ q ∈ V, MR (n : Int) q := fun q hq => M q ((mem q).mp hq)
  have eV : ∀ f : List Int × List Int → Bool, V.any f = L.any f := fun f => by
    rw [Bool.eq_iff_iff, List.any_eq_true, List.any_eq_true]
    exact ⟨fun ⟨x, hx, h⟩ => ⟨x, (mem x).mp hx, h⟩, fun ⟨x, hx, h⟩ => ⟨x, (mem x).mpr hx, h⟩⟩
  refine fnP_q ?_
  have t1 : tNotB (tBool (x1 (gIsi "tuple") (xVar 2))) [some (.v (rulesD (n : Int) ps)), some (.v (.tuple (N.map mdP))), some (.v (.tuple (L.map mdP))), none, none, none] [] = some (false, []) := tNot_ev (b := true) (tBool_ev (x1_ev rfl (kT' _)))
  have a1 : xN gAll (aCons (xLc [4] (iSeq (xVar 2)) (gN 4) tTrue (xCallP (F_is_mode) (aCons (xVar 0) (aCons (xVar 4) aNil)))) aNil) [some (.v (rulesD (n : Int) ps)), some (.v (.tuple (N.map mdP))), some (.v (.tuple (L.map mdP))), none, none, none] [] = some (.v (.bool true), []) := by
    refine xN_av (ds := [.list ((L.map fun _ => true).map .bool)]) (av_cons ?_ av_nil) ?_
    · rw [List.map_map]
      refine lc_all mdP L (fun _ => .bool true) rfl (iSeq_tup (xVar_ev rfl)) fun q hq => ⟨_, gN_ev rfl, callP_av (av_cons (xVar_ev rfl) (av_cons (xVar_ev rfl) av_nil)) ?_⟩
      rw [mode_okV (a := (n : Int)) (by omega) ps _ (w_md (a := (n : Int)) (by omega) (M q hq)), modeB_of (M q hq).md.ho (M q hq).md.hm (M q hq).po (M q hq).pm (M q hq).sub]
    · simp only [gAll, boolsOf_map, Option.map_some, List.all_map]
      congr 2
      rw [List.all_eq_true]
      exact fun _ _ => rfl
  refine sq_not (w1 := []) (b := false) ((tOr_ev t1).trans ?_) rfl ?_
  · rw [if_neg (by decide)]
    exact tNot_ev (b := true) (tBool_ev a1)
  · refine sq_set (w1 := []) (x1_ev (xVar_ev rfl) g) ?_
    show SQ _ [some (.v (rulesD (n : Int) ps)), some (.v (.tuple (N.map mdP))), some (.v (.tuple (L.map mdP))), some (.v (.list (V.map mdP))), none, none] _ _
    refine sq_ret (w1 := []) (xN_av (ds := [.list ((N.map fun p => V.any fun q => cvB q p && alB n ps q p).map .bool)]) (av_cons ?_ av_nil) ?_) (.inl ⟨[], rfl⟩)
    · rw [List.map_map]
      exact lc_all mdP N (fun p => .bool (V.any fun q => cvB q p && alB n ps q p)) rfl (iSeq_tup (xVar_ev rfl)) fun p hp => ⟨_, gN_ev rfl, callP_av (av_cons (xVar_ev rfl) (av_cons (xVar_ev rfl) (av_cons (xVar_ev rfl) av_nil))) (is_served_ok h1 h12 G (MN p hp) MV)⟩
    · simp only [gAll, boolsOf_map, Option.map_some, List.all_map]
      congr 2
      unfold svB
      congr 1
      funext p
      exact eV _
/-! the mathematics -/
theorem fu_mr {n : Nat} (h12 : n ≤ 12) {ps : List (Int × Int)} (G : GoodP (n : Int) ps) {p : List Int × List Int} (M : MR (n : Int) p) : MR (n : Int) (fuP (n : Int) ps p) := by
  have l1 := asc_len (wid_pw (n : Int) ps p.1) (wid_in (n : Int) ps p.1)
  have l2 := asc_len (wid_pw (n : Int) ps p.2) (wid_in (n : Int) ps p.2)
  exact ⟨⟨wid_in _ _ _, wid_in _ _ _, by show (wid _ _ _).length ≤ 12; omega, by show (wid _ _ _).length ≤ 12; omega⟩, wid_mono G M.sub, wid_pw _ _ _, wid_pw _ _ _⟩
theorem fu_fu {n : Nat} {ps : List (Int × Int)} (G : GoodP (n : Int) ps) {p : List Int × List Int} (M : MR (n : Int) p) : fuP (n : Int) ps (fuP (n : Int) ps p) = fuP (n : Int) ps p := Prod.ext (wid_ag (ag_wid G M.md.ho)) (wid_ag (ag_wid G M.md.hm))
theorem al_fu {n : Nat} {ps : List (Int × Int)} (G : GoodP (n : Int) ps) {p : List Int × List Int} (M : MR (n : Int) p) : alB n ps (fuP (n : Int) ps p) p = true := decide_eq_true ⟨ag_wid G M.md.ho, ag_wid G M.md.hm⟩
theorem cv_fu {n : Nat} {ps : List (Int × Int)} (G : GoodP (n : Int) ps) {p : List Int × List Int} (M : MR (n : Int) p) : cvB (fuP (n : Int) ps p) p = true := by
  unfold cvB
  rw [Bool.and_eq_true, ins_iff, ins_iff]
  exact ⟨wid_has G M.md.ho, wid_has G M.md.hm⟩
theorem al_iff {n : Nat} {ps : List (Int × Int)} (G : GoodP (n : Int) ps) {p q : List Int × List Int} (M : MR (n : Int) p) (Mq : MR (n : Int) q) : alB n ps p q = decide (fuP (n : Int) ps q = fuP (n : Int) ps p) := by
  unfold alB
  rw [Bool.eq_iff_iff, decide_eq_true_eq, decide_eq_true_eq]
  constructor
  · rintro ⟨e1, e2⟩
    exact Prod.ext (wid_ag e1.symm) (wid_ag e2.symm)
  · intro e
    have e1 := congrArg Prod.fst e
    have e2 := congrArg Prod.snd e
    dsimp only [fuP] at e1 e2
    refine ⟨?_, ?_⟩
    · rw [← ag_wid G M.md.ho, ← e1, ag_wid G Mq.md.ho]
    · rw [← ag_wid G M.md.hm, ← e2, ag_wid G Mq.md.hm]
theorem go_al {n : Nat} {ps : List (Int × Int)} (G : GoodP (n : Int) ps) {p q t : List Int × List Int} (M : MR (n : Int) p) (Mq : MR (n : Int) q) (Mt : MR (n : Int) t) (h : alB n ps p q = true) : goB ps p t = goB ps q t := by
  obtain ⟨e1, e2⟩ := of_decide_eq_true h
  rw [Bool.eq_iff_iff, go_ag G Mt M, go_ag G Mt Mq, e1, e2]
theorem FW.mr {n : Nat} (h12 : n ≤ 12) {ps : List (Int × Int)} (G : GoodP (n : Int) ps) {L V : List (List Int × List Int)} (F : FW n ps L V) (M : ∀ p ∈ L, MR (n : Int) p) : ∀ x ∈ V, MR (n : Int) x := fun x hx => by
  obtain ⟨p, hp, rfl⟩ := (F.mem x).mp hx
  exact fu_mr h12 G (M p hp)
theorem mlt_nodup {V : List (List Int × List Int)} (h : V.Pairwise fun x y => mlt x y = true) : V.Nodup := h.imp fun {x y} h e => by
  rw [e, show mlt y y = false from (PyProof.Rows.listOrd itemOrd).irrefl _] at h
  cases h
theorem FW.len {n : Nat} {ps : List (Int × Int)} {L V : List (List Int × List Int)} (F : FW n ps L V) : V.length ≤ L.length := by
  have := nodup_leG (mlt_nodup F.pw) (b := L.map (fuP (n : Int) ps)) fun x hx => by
    obtain ⟨p, hp, rfl⟩ := (F.mem x).mp hx
    exact List.mem_map_of_mem hp
  rwa [List.length_map] at this
theorem FW.again {n : Nat} {ps : List (Int × Int)} (G : GoodP (n : Int) ps) {L V V' : List (List Int × List Int)} (F : FW n ps L V) (M : ∀ p ∈ L, MR (n : Int) p) (F' : FW n ps V V') : V' = V := by
  refine mds_one F'.pw F.pw fun x => ?_
  rw [F'.mem]
  constructor
  · rintro ⟨y, hy, rfl⟩
    obtain ⟨p, hp, rfl⟩ := (F.mem y).mp hy
    rw [fu_fu G (M p hp)]
    exact hy
  · intro hx
    refine ⟨x, hx, ?_⟩
    obtain ⟨p, hp, rfl⟩ := (F.mem x).mp hx
    exact (fu_fu G (M p hp)).symm
theorem FW.serves {n : Nat} {ps : List (Int × Int)} (G : GoodP (n : Int) ps) {L V : List (List Int × List Int)} (F : FW n ps L V) (M : ∀ p ∈ L, MR (n : Int) p) : svB n ps L V = true := by
  unfold svB
  rw [List.all_eq_true]
  intro p hp
  rw [List.any_eq_true]
  exact ⟨fuP (n : Int) ps p, (F.mem _).mpr ⟨p, hp, rfl⟩, by rw [cv_fu G (M p hp), al_fu G (M p hp)]; rfl⟩
theorem FW.fewer {n : Nat} {ps : List (Int × Int)} (G : GoodP (n : Int) ps) {L V S : List (List Int × List Int)} (F : FW n ps L V) (M : ∀ p ∈ L, MR (n : Int) p) (MS : ∀ p ∈ S, MR (n : Int) p) (h : S.length < V.length) : svB n ps L S = false := by
  cases q : svB n ps L S with
  | false => rfl
  | true =>
    exfalso
    unfold svB at q
    rw [List.all_eq_true] at q
    have := nodup_leG (mlt_nodup F.pw) (b := S.map (fuP (n : Int) ps)) fun x hx => by
      obtain ⟨p, hp, rfl⟩ := (F.mem x).mp hx
      obtain ⟨s, hs, e⟩ := List.any_eq_true.mp (q p hp)
      rw [Bool.and_eq_true, al_iff G (MS s hs) (M p hp), decide_eq_true_eq] at e
      rw [e.2]
      exact List.mem_map_of_mem hs
    rw [List.length_map] at this
    omega
theorem FW.kind {n : Nat} {ps : List (Int × Int)} (G : GoodP (n : Int) ps) {L V : List (List Int × List Int)} (F : FW n ps L V) (M : ∀ p ∈ L, MR (n : Int) p) {W : List (List Int)} (HW : WP (n : Int) ps n W) : ∀ x ∈ V, x ∈ pairsW W := fun x hx => by
  obtain ⟨p, hp, rfl⟩ := (F.mem x).mp hx
  have Mp := M p hp
  exact pairs_mem.mpr ⟨(HW.mem _).mpr ⟨p.1, lots_mem.mpr ⟨Mp.po, Mp.md.ho⟩, rfl⟩, (HW.mem _).mpr ⟨p.2, lots_mem.mpr ⟨Mp.pm, Mp.md.hm⟩, rfl⟩, wid_mono G Mp.sub⟩
theorem eqv_md (p q : List Int × List Int) : PyData.eqv (mdP p) (mdP q) = decide (p = q) := by
  show PyData.eqvAll [rowI p.1, rowI p.2] [rowI q.1, rowI q.2] = _
  simp only [PyData.eqvAll, row_eqv, Bool.and_true]
  rw [Bool.eq_iff_iff, Bool.and_eq_true, decide_eq_true_eq, decide_eq_true_eq, decide_eq_true_eq]
  exact ⟨fun h => Prod.ext h.1 h.2, fun h => ⟨congrArg _ h, congrArg _ h⟩⟩
theorem eqvA_mds : ∀ L : List (List Int × List Int), PyData.eqvAll (L.map mdP) (L.map mdP) = true
  | [] => rfl
  | p :: r => by
    simp only [List.map_cons, PyData.eqvAll, eqv_md, decide_true, eqvA_mds r, Bool.and_self]
theorem ne_mdsT {D B : Nat} {L : List (List Int × List Int)} (h : Sm D B (.tuple (L.map mdP))) (hD : D ≤ 64) : gNeS (.tuple (L.map mdP)) (.tuple (L.map mdP)) = some (.bool false) := by
  show gNe _ _ = _
  unfold gNe
  rw [h.shaped hD]
  show some (PyData.bool (!PyData.eqvAll _ _)) = _
  rw [eqvA_mds]
  rfl
theorem ne_mdsL {D B : Nat} {L : List (List Int × List Int)} (h : Sm D B (.list (L.map mdP))) (hD : D ≤ 64) : gNeS (.list (L.map mdP)) (.list (L.map mdP)) = some (.bool false) := by
  show gNe _ _ = _
  unfold gNe
  rw [h.shaped hD]
  show some (PyData.bool (!PyData.eqvAll _ _)) = _
  rw [eqvA_mds]
  rfl
theorem ne_md {a : Int} (ha : a ≤ 12) {p q : List Int × List Int} (Mp : MR a p) (Mq : MR a q) : gNeS (mdP p) (mdP q) = some (.bool (!decide (p = q))) := by
  show gNe _ _ = _
  unfold gNe
  rw [(Mp.md.sm ha).shaped (by decide), (Mq.md.sm ha).shaped (by decide), eqv_md]
  rfl
theorem eq_md {a : Int} (ha : a ≤ 12) {p q : List Int × List Int} (Mp : MR a p) (Mq : MR a q) : gEqS (mdP p) (mdP q) = some (.bool (decide (p = q))) := by
  show gEq _ _ = _
  unfold gEq
  rw [(Mp.md.sm ha).shaped (by decide), (Mq.md.sm ha).shaped (by decide), eqv_md]
  rfl
theorem in_mds {D B a : Int} {D' B' : Nat} (ha : a ≤ 12) {L : List (List Int × List Int)} (h : Sm D' B' (.tuple (L.map mdP))) (hD : D' ≤ 64) {p : List Int × List Int} (M : MR a p) : gIn true (mdP p) (.tuple (L.map mdP)) = some (.bool (!decide (p ∈ L))) := by
  rw [in_some true rfl ((M.md.sm ha).shaped (by decide)) (h.shaped hD), if_pos rfl]
  congr 3
  rw [Bool.eq_iff_iff, List.any_eq_true, decide_eq_true_eq]
  constructor
  · rintro ⟨d, hd, e⟩
    obtain ⟨q, hq, rfl⟩ := List.mem_map.mp hd
    rw [eqv_md, decide_eq_true_eq] at e
    rw [← e]
    exact hq
  · intro hm
    exact ⟨mdP p, List.mem_map_of_mem hm, by rw [eqv_md]; simp⟩
/-! drawing, called beside other things -/
theorem oneTT {T : Int} {o : WO} (D : DO T o) (hT : T < 100000000) {ds : List PyData} (h0 : ds ≠ []) (hl : ds.length ≤ 1000) : ∃ d o', d ∈ ds ∧ DO (T + 1) o' ∧ ∀ (fs : A1) (e : DE) (w r : Wd), fs e w = some ([.obj 0, .v (.tuple ds)], o :: r) → xCallT 1 F_law_one fs e w = some (.v d, o' :: r) := by
  obtain ⟨d, w', q, hd, D'⟩ := one_okT D.dk (by omega) h0 hl
  obtain ⟨o', D', q'⟩ := framed q D'
  exact ⟨d, o', hd, D', fun fs e w r h => q' fs e w r [.obj 0, .v (.tuple ds)] h rfl rfl⟩
theorem oneTL {T : Int} {o : WO} (D : DO T o) (hT : T < 100000000) {ds : List PyData} (h0 : ds ≠ []) (hl : ds.length ≤ 1000) : ∃ d o', d ∈ ds ∧ DO (T + 1) o' ∧ ∀ (fs : A1) (e : DE) (w r : Wd), fs e w = some ([.obj 0, .v (.list ds)], o :: r) → xCallT 1 F_law_one fs e w = some (.v d, o' :: r) := by
  obtain ⟨d, w', q, hd, D'⟩ := one_ok D.dk (by omega) h0 hl
  obtain ⟨o', D', q'⟩ := framed q D'
  exact ⟨d, o', hd, D', fun fs e w r h => q' fs e w r [.obj 0, .v (.list ds)] h rfl rfl⟩
theorem md_in {N : List (List Int × List Int)} {d : PyData} (h : d ∈ N.map mdP) : ∃ p ∈ N, d = mdP p := by
  obtain ⟨p, hp, rfl⟩ := List.mem_map.mp h
  exact ⟨p, hp, rfl⟩
theorem law_true (K : PySem.W.Frag) (ns : List Int) (hl : ns.length ≤ 63) : fnL K 13 (B_law K) ns := by
  obtain ⟨o0, q0, D0⟩ := deckT (K := K) hl
  obtain ⟨r, w', q, hr⟩ := fnD_q (n := 13) (body := B_law K) (as := [.scr K ns]) (w := []) (R := fun r _ => r = .val (.bool true)) (by
    unfold B_law
    refine sq_setO (xCallD_ev (rs := [.scr K ns]) (z := .obj 0) rfl rfl q0) ?_
    refine sq_forNS 0 8 (fun k m e w => ∃ s2 s3 s4 s5 s6 s7 s8 s9 s10 s11 s12 o, e = [some (.scr K ns), some (.obj 0), s2, s3, s4, s5, s6, s7, s8, s9, s10, s11, s12] ∧ NO [s2, s3, s4, s5, s6, s7, s8, s9, s10, s11, s12] = true ∧ w = [o] ∧ DO (2000 * k) o) rfl ⟨_, _, _, _, _, _, _, _, _, _, _, o0, rfl, rfl, rfl, D0.mono (by decide)⟩ ?_ (fun e w ⟨_, _, _, _, _, _, _, _, _, _, _, o, h, _⟩ => sq_ret rfl rfl)
    rintro k m e w k0 k1 ⟨s2, s3, s4, s5, s6, s7, s8, s9, s10, s11, s12, o, rfl, hn, rfl, D⟩
    simp only [NO, List.all_cons, Bool.and_eq_true, Bool.not_eq_true'] at hn
    obtain ⟨h2, h3, h4, h5, h6, h7, h8, h9, h10, h11, h12, _⟩ := hn
    refine ⟨_, gN_ev (by exact h2), ?_⟩
    obtain ⟨a, ps, o1, a1, a6, G, hps, D1, q1⟩ := rulesT (m := 6) D (by omega) (by decide) (by decide)
    refine sq_set (q1 1 _ _ _ rfl rfl) ?_
    show SQ _ [some (.scr K ns), some (.obj 0), some (.v (.int k)), some (.v (rulesD a ps)), s4, s5, s6, s7, s8, s9, s10, s11, s12] _ _
    obtain ⟨N, w2, q2, MN, l12, l1, D2⟩ := modes_drawR (m := 12) D1.dk (by omega) a1 a6 (by decide) (by decide)
    have hN : N.length ≤ 12 := by omega
    obtain ⟨o2, D2, q2⟩ := framed q2 D2
    have ga0 : gIx (rulesD a ps) (.int 0) = some (.int a) := rfl
    refine sq_set (q2 _ _ _ [] [.obj 0, .v (.int a), .v (.int 12)] (aCons_ev (xObj_ev rfl) (aCons_ev (xIx_ev (xVar_ev rfl) ga0) (aCons_ev rfl (aNil_ev _ _)))) rfl rfl) ?_
    show SQ _ [some (.scr K ns), some (.obj 0), some (.v (.int k)), some (.v (rulesD a ps)), some (.v (.tuple (N.map mdP))), s5, s6, s7, s8, s9, s10, s11, s12] _ _
    obtain ⟨n, rfl⟩ : ∃ n : Nat, a = (n : Int) := ⟨a.toNat, by omega⟩
    have n1 : 1 ≤ n := by omega
    have n6 : n ≤ 6 := by omega
    have n12 : n ≤ 12 := by omega
    have i12 : (n : Int) ≤ 12 := by omega
    obtain ⟨V, F, f1⟩ := fewest_ok n1 n12 G MN (by omega)
    have MV := F.mr n12 G MN
    have lV := F.len
    obtain ⟨V', F', f2⟩ := fewest_ok n1 n12 G MV (by omega)
    have eV := F.again G MN F'
    subst eV
    have V0 : V' ≠ [] := by
      intro h
      cases N with
      | nil => simp at l1
      | cons p r =>
        have := (F.mem (fuP (n : Int) ps p)).mpr ⟨p, List.mem_cons_self .., rfl⟩
        rw [h] at this
        cases this
    have N0 : N ≠ [] := fun h => by rw [h] at l1; simp at l1
    obtain ⟨W, HW, f3⟩ := kinds_ok G rfl n1 n6
    have smV : Sm 3 20000 (.tuple (V'.map mdP)) := (sm_tup (n := 12) (D := 2) (B := 1562) (fun d hd => by
      obtain ⟨p, hp, rfl⟩ := md_in hd
      exact (MV p hp).md.sm i12) (by rw [List.length_map]; omega)).le (by decide) (by decide)
    have smP := pairs_sm n1 n6 HW
    have smL : Sm 3 570807 (.list ((pairsW W).map mdP)) := (sm_lst (n := 729) (D := 2) (B := 782) (fun d hd => by
      obtain ⟨p, hp, rfl⟩ := md_in hd
      obtain ⟨a1, a2, _⟩ := pairs_mem.mp hp
      exact md6 (a := (n : Int)) (by omega) (HW.row a1).1 (HW.row a1).2 (HW.row a2).1 (HW.row a2).2) (by rw [List.length_map]; exact pairs_729 n1 n6 HW)).le (by decide) (by decide)
    have sv := serves_ok n1 n12 G MN MV (by omega)
    rw [F.serves G MN] at sv
    refine sq_set (w1 := [o2]) (callP_av (av_cons (xVar_ev rfl) (av_cons (xVar_ev rfl) av_nil)) f1) ?_
    show SQ _ [some (.scr K ns), some (.obj 0), some (.v (.int k)), some (.v (rulesD (n : Int) ps)), some (.v (.tuple (N.map mdP))), some (.v (.tuple (V'.map mdP))), s6, s7, s8, s9, s10, s11, s12] _ _
    have gl : gGt (.int (V'.length : Int)) (.int (N.length : Int)) = some (.bool false) := by
      simp only [gGt, gC2]
      rw [decide_eq_false (by omega)]
    refine sq_not (w1 := [o2]) (b := false) ((tOr_ev (b := false) (tBool_ev (x2_ev (callP_av (av_cons (xVar_ev rfl) (av_cons (xVar_ev rfl) (av_cons (xVar_ev rfl) av_nil))) sv) rfl rfl))).trans ?_) rfl ?_
    · rw [if_neg (by decide), tOr_ev (tBool_ev (x2_ev (len_ev rfl) (len_ev rfl) gl)), if_neg (by decide)]
      exact tBool_ev (x2_ev (callP_av (av_cons (xVar_ev rfl) (av_cons (xVar_ev rfl) av_nil)) f2) (xVar_ev rfl) (ne_mdsT smV (by decide)))
    refine sq_set (w1 := [o2]) (callP_av (av_cons (xVar_ev rfl) av_nil) f3) ?_
    show SQ _ [some (.scr K ns), some (.obj 0), some (.v (.int k)), some (.v (rulesD (n : Int) ps)), some (.v (.tuple (N.map mdP))), some (.v (.tuple (V'.map mdP))), some (.v (.tuple ((pairsW W).map mdP))), s7, s8, s9, s10, s11, s12] _ _
    have gs : gSortSetN (.tuple ((pairsW W).map mdP)) = some (.list ((pairsW W).map mdP)) := by
      obtain ⟨U, g, pw, mem⟩ := set_modesB (pairsW W) (by have := pairs_729 n1 n6 HW; omega)
      rw [g, mds_one pw (pairs_pw HW.pw) mem]
    have on : x2 gNeS (xLc [9] (iSeq (xVar 5)) (gN 9) (tBool (x2 (gIn true) (xVar 9) (xVar 6))) (xC (.int 1))) (xLst aNil) [some (.scr K ns), some (.obj 0), some (.v (.int k)), some (.v (rulesD (n : Int) ps)), some (.v (.tuple (N.map mdP))), some (.v (.tuple (V'.map mdP))), some (.v (.tuple ((pairsW W).map mdP))), s7, s8, s9, s10, s11, s12] [o2] = some (.v (.bool false), [o2]) := by
      have := lc_map (vs := [9]) (it := iSeq (xVar 5)) (g := gN 9) (t := tBool (x2 (gIn true) (xVar 9) (xVar 6))) (x := xC (.int 1)) (e := [some (.scr K ns), some (.obj 0), some (.v (.int k)), some (.v (rulesD (n : Int) ps)), some (.v (.tuple (N.map mdP))), some (.v (.tuple (V'.map mdP))), some (.v (.tuple ((pairsW W).map mdP))), s7, s8, s9, s10, s11, s12]) (w := [o2]) (w1 := [o2]) mdP V' (fun _ => false) (fun _ => .int 1) (ok1 h9) (iSeq_tup (xVar_ev rfl)) fun p hp => ⟨_, gN_ev rfl, tBool_ev (x2_ev (xVar_ev rfl) (xVar_ev rfl) (by
          rw [in_mds (D := 0) (B := 0) i12 smP (by decide) (MV p hp), decide_eq_true (F.kind G MN HW p hp)]
          rfl)), fun h => by cases h⟩
      rw [show V'.filter (fun _ => false) = [] by simp] at this
      exact x2_ev this rfl rfl
    refine sq_not (w1 := [o2]) (b := false) ((tOr_ev (b := false) (tBool_ev on)).trans ?_) rfl ?_
    · rw [if_neg (by decide)]
      exact tBool_ev (x2_ev (xN_av (av_cons (xVar_ev rfl) av_nil) rfl) (x1_ev (xVar_ev rfl) gs) (ne_mdsL smL (by decide)))
    generalize PyData.tuple ((pairsW W).map mdP) = PW
    refine sq_forNS 0 4 (fun j m e w => ∃ s7 s8 o, e = [some (.scr K ns), some (.obj 0), some (.v (.int k)), some (.v (rulesD (n : Int) ps)), some (.v (.tuple (N.map mdP))), some (.v (.tuple (V'.map mdP))), some (.v PW), s7, s8, s9, s10, s11, s12] ∧ NO [s7, s8] = true ∧ w = [o] ∧ DO (2000 * k + 400 + 300 * j) o) (w1 := [o2]) rfl ⟨s7, s8, o2, rfl, by simp only [NO, List.all_cons, List.all_nil, h7, h8]; rfl, rfl, D2.mono (by omega)⟩ ?_ ?_
    · rintro j m' e w j0 j1 ⟨s7, s8, o, rfl, hn, rfl, D⟩
      simp only [NO, List.all_cons, Bool.and_eq_true, Bool.not_eq_true'] at hn
      obtain ⟨h7, h8, _⟩ := hn
      refine ⟨_, gN_ev (by exact h7), ?_⟩
      obtain ⟨S, w4, q4, o4, S', rfl, eS, MS, lS, D4⟩ := lc_inv (vs := [9]) (it := iSeq (xSl (xVar 5) (oSome (xC (.int 1))) oNone)) (g := gN 9) (t := tTrue) (x := xCallT 1 (F_law_one) (aCons (xVar 1) (aCons (xLst (aCons (xCallT 1 (F_law_one) (aCons (xVar 1) (aCons (xVar 5) aNil))) (aCons (xCallT 1 (F_law_one) (aCons (xVar 1) (aCons (xVar 4) aNil))) (aCons (xCallT 1 (F_law_mode) (aCons (xVar 1) (aCons (x2 gIx (xVar 3) (xC (.int 0))) aNil))) aNil)))) aNil)))
        (e := [some (.scr K ns), some (.obj 0), some (.v (.int k)), some (.v (rulesD (n : Int) ps)), some (.v (.tuple (N.map mdP))), some (.v (.tuple (V'.map mdP))), some (.v PW), some (.v (.int j)), s8, s9, s10, s11, s12]) (w := [o]) (w1 := [o])
        mdP (V'.drop 1) (fun rest acc w => ∃ o S', w = [o] ∧ acc = S'.map mdP ∧ (∀ p ∈ S', MR (n : Int) p) ∧ S'.length + rest.length = V'.length - 1 ∧ DO (2000 * k + 400 + 300 * j + 20 * S'.length) o) (ok1 h9) (by
          have e1 : cutD (V'.map mdP) (some 1) none = (V'.drop 1).map mdP := by
            have := cut_from (V'.map mdP) 1
            rw [show ((1 : Nat) : Int) = 1 from rfl] at this
            rw [this, List.map_drop]
          rw [← e1]
          exact iSeq_tup (sl_ev (xVar_ev rfl) (oSome_ev rfl) rfl)) ⟨o, [], rfl, rfl, (fun p hp => nomatch hp), by rw [List.length_drop, List.length_nil]; omega, D.mono (by simp)⟩ (by
          rintro x rest acc w ⟨o, S', rfl, rfl, MS, lS, Da⟩
          have lS2 := lS
          rw [List.length_cons] at lS2
          refine ⟨_, gN_ev rfl, true, [o], rfl, (fun h => by cases h), fun _ => ?_⟩
          obtain ⟨d1, o1', m1, D1', q1'⟩ := oneTT Da (by omega) (ds := V'.map mdP) (by simpa using V0) (by rw [List.length_map]; omega)
          obtain ⟨d2, o2', m2, D2', q2'⟩ := oneTT D1' (by omega) (ds := N.map mdP) (by simpa using N0) (by rw [List.length_map]; omega)
          obtain ⟨p3, o3', M3, D3', q3'⟩ := modeTR (a := (n : Int)) D2' (by omega) (by omega) (by omega)
          obtain ⟨d, o5, m5, D5, q5⟩ := oneTL D3' (by omega) (ds := [d1, d2, mdP p3]) (by simp) (by simp)
          obtain ⟨p5, rfl, M5⟩ : ∃ p, d = mdP p ∧ MR (n : Int) p := by
            simp only [List.mem_cons, List.not_mem_nil, or_false] at m5
            rcases m5 with rfl | rfl | rfl
            · obtain ⟨p, hp, rfl⟩ := md_in m1
              exact ⟨p, rfl, MV p hp⟩
            · obtain ⟨p, hp, rfl⟩ := md_in m2
              exact ⟨p, rfl, MN p hp⟩
            · exact ⟨p3, rfl, M3⟩
          refine ⟨mdP p5, [o5], q5 _ _ _ [] (aCons_ev (xObj_ev rfl) (aCons_ev (lst_ev (aCons_ev (q1' _ _ _ [] (aCons_ev (xObj_ev rfl) (aCons_ev (xVar_ev rfl) (aNil_ev _ _)))) (aCons_ev (q2' _ _ _ [] (aCons_ev (xObj_ev rfl) (aCons_ev (xVar_ev rfl) (aNil_ev _ _)))) (aCons_ev (q3' 1 _ _ [] rfl (xIx_ev (xVar_ev rfl) ga0)) (aNil_ev _ _)))) rfl) (aNil_ev _ _))), o5, S' ++ [p5], rfl, by rw [List.map_append]; rfl, fun p hp => ?_, by rw [List.length_append, List.length_singleton]; omega, D5.mono (by rw [List.length_append, List.length_singleton]; omega)⟩
          rcases List.mem_append.mp hp with hp | hp
          · exact MS p hp
          · rw [List.mem_singleton.mp hp]; exact M5)
      subst eS
      refine sq_set (w1 := [o4]) q4 ?_
      show SQ _ [some (.scr K ns), some (.obj 0), some (.v (.int k)), some (.v (rulesD (n : Int) ps)), some (.v (.tuple (N.map mdP))), some (.v (.tuple (V'.map mdP))), some (.v PW), some (.v (.int j)), some (.v (.list (S'.map mdP))), s9, s10, s11, s12] _ _
      have lp := List.length_pos_iff.mpr V0
      have sv2 := serves_ok n1 n12 G MN MS (by simp at lS; omega)
      rw [F.fewer G MN MS (by simp at lS; omega)] at sv2
      refine sq_if (w1 := [o4]) (b := false) (tBool_ev (callP_av (av_cons (xVar_ev rfl) (av_cons (xVar_ev rfl) (av_cons (xN_av (av_cons (xVar_ev rfl) av_nil) rfl) av_nil))) sv2)) (fun h => by cases h) fun _ => sq_skip ⟨_, _, o4, rfl, rfl, rfl, D4.mono (by simp at lS; omega)⟩
    · rintro e w ⟨s7, s8, o3, rfl, hn, rfl, D3⟩
      simp only [NO, List.all_cons, Bool.and_eq_true, Bool.not_eq_true'] at hn
      obtain ⟨h7, h8, _⟩ := hn
      refine sq_forL mdP N (fun rest e w => ∃ s9 s10 s11 s12 o, e = [some (.scr K ns), some (.obj 0), some (.v (.int k)), some (.v (rulesD (n : Int) ps)), some (.v (.tuple (N.map mdP))), some (.v (.tuple (V'.map mdP))), some (.v PW), s7, s8, s9, s10, s11, s12] ∧ NO [s9, s10, s11, s12] = true ∧ w = [o] ∧ rest.length ≤ N.length ∧ DO (2000 * k + 1600 + 20 * (N.length - rest.length)) o ∧ ∀ p ∈ rest, p ∈ N) (w1 := [o3]) (iSeq_tup (xVar_ev rfl)) ⟨s9, s10, s11, s12, o3, rfl, by simp only [NO, List.all_cons, List.all_nil, h9, h10, h11, h12]; rfl, rfl, Nat.le_refl _, D3.mono (by omega), fun p hp => hp⟩ ?_ ?_
      · rintro p rest e w ⟨s9, s10, s11, s12, o, rfl, hn, rfl, hlr, D, hm⟩
        rw [List.length_cons] at hlr D
        simp only [NO, List.all_cons, Bool.and_eq_true, Bool.not_eq_true'] at hn
        obtain ⟨h9, h10, h11, h12, _⟩ := hn
        refine ⟨_, gN_ev (by exact h9), ?_⟩
        have Mp := MN p (hm p (List.mem_cons_self ..))
        have Mf := fu_mr n12 G Mp
        obtain ⟨d1, o4, m1, D4, q4⟩ := oneTT D (by omega) (ds := N.map mdP) (by simpa using N0) (by rw [List.length_map]; omega)
        obtain ⟨t, ht, rfl⟩ := md_in m1
        have Mt := MN t ht
        have fp := full_ok G (by omega) i12 Mp.md
        have ft := full_ok G (by omega) i12 Mt.md
        have ff := full_ok G (by omega) i12 Mf.md
        have cv := covers_P i12 Mf.md Mp.md
        have al1 := alike_ok n1 n12 G Mf.md Mp.md
        have al2 := alike_ok n1 n12 G Mp.md Mt.md
        rw [show (insB (fuP (n : Int) ps p).1 p.1 && insB (fuP (n : Int) ps p).2 p.2) = true from cv_fu G Mp] at cv
        rw [show decide (agI (n : Int) ps (fuP (n : Int) ps p).1 = agI (n : Int) ps p.1 ∧ agI (n : Int) ps (fuP (n : Int) ps p).2 = agI (n : Int) ps p.2) = true from al_fu G Mp] at al1
        rw [show decide (agI (n : Int) ps p.1 = agI (n : Int) ps t.1 ∧ agI (n : Int) ps p.2 = agI (n : Int) ps t.2) = alB n ps p t from rfl] at al2
        rw [show mdP (wid (n : Int) ps (fuP (n : Int) ps p).1, wid (n : Int) ps (fuP (n : Int) ps p).2) = mdP (fuP (n : Int) ps p) from congrArg mdP (fu_fu G Mp)] at ff
        rw [show ((wid (n : Int) ps p.1, wid (n : Int) ps p.2) : List Int × List Int) = fuP (n : Int) ps p from rfl] at fp
        rw [show ((wid (n : Int) ps t.1, wid (n : Int) ps t.2) : List Int × List Int) = fuP (n : Int) ps t from rfl] at ft
        refine sq_par (w1 := [o4]) (aCons_ev (callP_av (av_cons (xVar_ev rfl) (av_cons (xVar_ev rfl) av_nil)) fp) (aCons_ev (q4 _ _ _ [] (aCons_ev (xObj_ev rfl) (aCons_ev (xVar_ev rfl) (aNil_ev _ _)))) (aNil_ev _ _))) ?_
        show SQ _ [some (.scr K ns), some (.obj 0), some (.v (.int k)), some (.v (rulesD (n : Int) ps)), some (.v (.tuple (N.map mdP))), some (.v (.tuple (V'.map mdP))), some (.v PW), s7, s8, some (.v (mdP p)), some (.v (mdP (fuP (n : Int) ps p))), some (.v (mdP t)), s12] _ _
        refine sq_not (w1 := [o4]) (b := false) ((tOr_ev (b := false) (tNot_ev (b := true) (tBool_ev (callP_av (av_cons (xVar_ev rfl) (av_cons (xVar_ev rfl) av_nil)) cv)))).trans ?_) rfl ?_
        · rw [if_neg (by decide), tOr_ev (b := false) (tBool_ev (x2_ev (callP_av (av_cons (xVar_ev rfl) (av_cons (xVar_ev rfl) (av_cons (xVar_ev rfl) av_nil))) al1) rfl rfl)), if_neg (by decide)]
          refine tBool_ev (x2_ev (callP_av (av_cons (xVar_ev rfl) (av_cons (xVar_ev rfl) av_nil)) ff) (xVar_ev rfl) ?_)
          rw [ne_md i12 Mf Mf]
          simp
        refine sq_not (w1 := [o4]) (b := false) (tBool_ev (x2_ev (callP_av (av_cons (xVar_ev rfl) (av_cons (xVar_ev rfl) (av_cons (xVar_ev rfl) av_nil))) al2) (x2_ev (callP_av (av_cons (xVar_ev rfl) (av_cons (xVar_ev rfl) av_nil)) ft) (xVar_ev rfl) (eq_md i12 (fu_mr n12 G Mt) Mf)) ?_)) rfl ?_
        · rw [ne_bools, al_iff G Mp Mt]
          simp
        obtain ⟨u, o5, Mu, D5, q5⟩ := modeTR (a := (n : Int)) D4 (by omega) (by omega) (by omega)
        refine sq_set (w1 := [o5]) (q5 1 _ _ [] rfl (xIx_ev (xVar_ev rfl) ga0)) ?_
        show SQ _ [some (.scr K ns), some (.obj 0), some (.v (.int k)), some (.v (rulesD (n : Int) ps)), some (.v (.tuple (N.map mdP))), some (.v (.tuple (V'.map mdP))), some (.v PW), s7, s8, some (.v (mdP p)), some (.v (mdP (fuP (n : Int) ps p))), some (.v (mdP t)), some (.v (mdP u))] _ _
        have g1 := goes_P G (by omega) i12 Mf.md Mu.md
        have g2 := goes_P G (by omega) i12 Mp.md Mu.md
        have g3 := goes_P G (by omega) i12 Mt.md Mu.md
        rw [go_al G Mf Mp Mu (al_fu G Mp)] at g1
        refine sq_not (w1 := [o5]) (b := false) (tBool_ev (x2_ev (callP_av (av_cons (xVar_ev rfl) (av_cons (xVar_ev rfl) (av_cons (xVar_ev rfl) av_nil))) g1) (callP_av (av_cons (xVar_ev rfl) (av_cons (xVar_ev rfl) (av_cons (xVar_ev rfl) av_nil))) g2) (by rw [ne_bools]; simp))) rfl ?_
        refine sq_if (w1 := [o5]) (b := false) ((tAnd_ev (tBool_ev (callP_av (av_cons (xVar_ev rfl) (av_cons (xVar_ev rfl) (av_cons (xVar_ev rfl) av_nil))) al2))).trans ?_) (fun h => by cases h) fun _ => sq_skip ⟨_, _, _, _, o5, rfl, rfl, rfl, by omega, D5.mono (by omega), fun z hz => hm z (List.mem_cons_of_mem _ hz)⟩
        cases ha : alB n ps p t with
        | false => rfl
        | true =>
          rw [if_pos rfl]
          refine tBool_ev (x2_ev (callP_av (av_cons (xVar_ev rfl) (av_cons (xVar_ev rfl) (av_cons (xVar_ev rfl) av_nil))) g3) (callP_av (av_cons (xVar_ev rfl) (av_cons (xVar_ev rfl) (av_cons (xVar_ev rfl) av_nil))) g2) ?_)
          rw [ne_bools, go_al G Mp Mt Mu ha]
          simp
      · rintro e w ⟨s9, s10, s11, s12, o, rfl, hn, rfl, _, D, _⟩
        simp only [NO, List.all_cons, Bool.and_eq_true, Bool.not_eq_true'] at hn
        obtain ⟨h9, h10, h11, h12, _⟩ := hn
        exact ⟨_, _, _, _, _, _, _, _, _, _, _, o, rfl, by simp only [NO, List.all_cons, List.all_nil, h7, h8, h9, h10, h11, h12]; rfl, rfl, D.mono (by omega)⟩)
  exact ⟨w', by rw [q, hr]⟩

end Pf

open PySem PySem.W PyProof.Rows in
set_option maxRecDepth 100000 in
set_option maxHeartbeats 0 in
theorem PySem.Challenge.cw_holdmodes_k17_whole_fewest_modes_holds : PySem.Challenge.rw_holdmodes_k17_whole_fewest_modes.Holds := by
  w_on; o_law; k_head; (case hw => w_witness2)
  k_fill
  refine DL.walk_G (l := PySem.Challenge.rw_holdmodes_k17_whole_fewest_modes) (k := 6) (x := "_law_script") (sp := fun K => DL.spL 13 (Pf.B_law K) K) rfl rfl ⟨rfl, by decide, by decide⟩ (fun w h Y => PySem.W.kIn_of Y) ?F (fun K H a ns hl nm sq => ⟨a, ns, rfl, hl, sq, nm, Pf.law_true K ns hl, fun _ => rfl⟩)
  case F =>
    intro w mg fa h KX G hmg
    refine' Pf.all_mk KX G hmg ?a1 ?l1 ?c1 ?k1 ?a2 ?l2 ?c2 ?k2 ?a3 ?l3 ?c3 ?k3 ?a4 ?l4 ?c4 ?k4 ?a5 ?l5 ?c5 ?k5 ?a6 ?l6 ?c6 ?k6 ?a7 ?l7 ?c7 ?k7 ?a8 ?l8 ?c8 ?k8 ?a9 ?l9 ?c9 ?k9 ?a10 ?l10 ?c10 ?k10 ?a11 ?l11 ?c11 ?k11 ?a12 ?l12 ?c12 ?k12 ?a13 ?l13 ?c13 ?k13 ?a14 ?l14 ?c14 ?k14 ?a15 ?l15 ?c15 ?k15 ?a16 ?l16 ?c16 ?k16 ?a17 ?l17 ?c17 ?k17 ?a18 ?l18 ?c18 ?k18 ?a19 ?l19 ?c19 ?k19 ?a20 ?l20 ?c20 ?k20 ?a21 ?l21 ?c21 ?k21 ?a22 ?l22 ?c22 ?k22 ?a23 ?l23 ?c23 ?k23 ?a24 ?l24 ?c24 ?k24 ?a25 ?l25 ?c25 ?k25 ?a26 ?l26 ?c26 ?k26 ?a27 ?l27 ?c27 ?k27 ?z_abs ?z_all ?z_any ?z_bool ?z_int ?z_isinstance ?z_len ?z_list ?z_max ?z_min ?z_range ?z_set ?z_sorted ?z_tuple
    (case a1 => k_is)
    (case l1 => k_is)
    (case c1 => k_is)
    (case k1 => k_is)
    (case a2 => k_is)
    (case l2 => k_is)
    (case c2 => k_is)
    (case k2 => k_is)
    (case a3 => k_is)
    (case l3 => k_is)
    (case c3 => k_is)
    (case k3 => k_is)
    (case a4 => k_is)
    (case l4 => k_is)
    (case c4 => k_is)
    (case k4 => k_is)
    (case a5 => k_is)
    (case l5 => k_is)
    (case c5 => k_is)
    (case k5 => k_is)
    (case a6 => k_is)
    (case l6 => k_is)
    (case c6 => k_is)
    (case k6 => k_is)
    (case a7 => k_is)
    (case l7 => k_is)
    (case c7 => k_is)
    (case k7 => k_is)
    (case a8 => k_is)
    (case l8 => k_is)
    (case c8 => k_is)
    (case k8 => k_is)
    (case a9 => k_is)
    (case l9 => k_is)
    (case c9 => k_is)
    (case k9 => k_is)
    (case a10 => k_is)
    (case l10 => k_is)
    (case c10 => k_is)
    (case k10 => k_is)
    (case a11 => k_is)
    (case l11 => k_is)
    (case c11 => k_is)
    (case k11 => k_is)
    (case a12 => k_is)
    (case l12 => k_is)
    (case c12 => k_is)
    (case k12 => k_is)
    (case a13 => k_is)
    (case l13 => k_is)
    (case c13 => k_is)
    (case k13 => k_is)
    (case a14 => k_is)
    (case l14 => k_is)
    (case c14 => k_is)
    (case k14 => k_is)
    (case a15 => k_is)
    (case l15 => k_is)
    (case c15 => k_is)
    (case k15 => k_is)
    (case a16 => k_is)
    (case l16 => k_is)
    (case c16 => k_is)
    (case k16 => k_is)
    (case a17 => k_is)
    (case l17 => k_is)
    (case c17 => k_is)
    (case k17 => k_is)
    (case a18 => k_is)
    (case l18 => k_is)
    (case c18 => k_is)
    (case k18 => k_is)
    (case a19 => k_is)
    (case l19 => k_is)
    (case c19 => k_is)
    (case k19 => k_is)
    (case a20 => k_is)
    (case l20 => k_is)
    (case c20 => k_is)
    (case k20 => k_is)
    (case a21 => k_is)
    (case l21 => k_is)
    (case c21 => k_is)
    (case k21 => k_is)
    (case a22 => k_is)
    (case l22 => k_is)
    (case c22 => k_is)
    (case k22 => k_is)
    (case a23 => k_is)
    (case l23 => k_is)
    (case c23 => k_is)
    (case k23 => k_is)
    (case a24 => k_is)
    (case l24 => k_is)
    (case c24 => k_is)
    (case k24 => k_is)
    (case a25 => k_is)
    (case l25 => k_is)
    (case c25 => k_is)
    (case k25 => k_is)
    (case a26 => k_is)
    (case l26 => k_is)
    (case c26 => k_is)
    (case k26 => k_is)
    (case a27 => k_is)
    (case l27 => k_is)
    (case c27 => k_is)
    (case k27 => k_is)
    (case z_abs => k_is)
    (case z_all => k_is)
    (case z_any => k_is)
    (case z_bool => k_is)
    (case z_int => k_is)
    (case z_isinstance => k_is)
    (case z_len => k_is)
    (case z_list => k_is)
    (case z_max => k_is)
    (case z_min => k_is)
    (case z_range => k_is)
    (case z_set => k_is)
    (case z_sorted => k_is)
    (case z_tuple => k_is)
#print axioms PySem.Challenge.cw_holdmodes_k17_whole_fewest_modes_holds
