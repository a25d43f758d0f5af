-- MADE BY PROGRAM (checked-in-parts.mjs): THE WHOLE, out of the parts' theorems: the elder text of this name to the letter but for: '.._by_items' -> '.._from_items'; what stands in Pd and Pe comes from there.
import Derived.Test.YtkdpdgbacladhaaProg
import Derived.KernelRfl
import Derived.Items
import Derived.PartsItems
import Derived.CheckFast
import Derived.HeadItems
import GoSem.Claims
import Derived.Shelf.ItemsParts
import Derived.Test.YtkdpdgbacladhaaCheckedPd
import Derived.Test.YtkdpdgbacladhaaCheckedP0
import Derived.Test.YtkdpdgbacladhaaCheckedP1
import Derived.Test.YtkdpdgbacladhaaCheckedP2
import Derived.Test.YtkdpdgbacladhaaCheckedP3
import Derived.Test.YtkdpdgbacladhaaCheckedPe
namespace Go.Proofs

-- (twenty-third state; an AI agent of the authors' house's law, Derived/PartsItems.lean) THE ONE GREAT EQUATION, ITEM BY ITEM: by 'kernel_rfl' in one declaration it made the kernel hold what the loader is told of EVERY function at once (15.2 GB at the testers' kernel's whole tower; 2.2 GB so: an AI agent of the authors' house's measure)
mapM_from_items Try.el.told : Try.bare.zipIdx.mapM (Elab.PartsItems.partAt Try.src) = .ok Try.parts
theorem Try.el.parts : (Elab.parts Try.src).toList = Try.parts := Elab.PartsItems.parts_by_items Try.el.bare Try.el.told
theorem Try.el.tables : Elab.tablesOf Try.src = Try.progTables := by kernel_rfl
mapM_from_items Try.el.funcs : Try.parts.mapM (Elab.one Try.progTables) = .ok Try.funcs.toList
theorem Try.elab_eq : Elab.program Try.src = .ok Try.prog := by
  unfold Elab.program
  rw [Try.el.parts, Try.el.tables, Try.el.funcs]
  kernel_rfl

forM_from_items Try.wf.types : (List.range Try.src.types.size).forM (Check.typeAt Try.src) = .ok ()
-- (twenty-third state; an AI agent of the authors' house's law, Derived/HeadItems.lean) THE SOURCE's HEAD: its last row, 'no two functions of one name', held every pair of names in one declaration (over 10 GB at the testers' kernel's whole tower): A NAME AN ITEM
theorem Try.wf.headBut : Check.HeadItems.headButNames Try.src = .ok () := by kernel_rfl
theorem Try.wf.count : (Try.src.decls.toList.map (·.name)).length = Try.src.decls.size := by kernel_rfl
forM_from_items Try.wf.names : (List.range Try.src.decls.size).forM (Check.HeadItems.nameAt (Try.src.decls.toList.map (·.name))) = .ok ()
theorem Try.wf.head : Check.head Try.src = .ok () := Check.HeadItems.head_by_items Try.wf.headBut Try.wf.count Try.wf.names
forM_from_items Try.wf.cutTypes : Try.src.cutTypes.toList.forM (Check.cutType Try.src) = .ok ()
forM_from_items Try.wf.globals : Try.src.globals.toList.forM (Check.global Try.src) = .ok ()
forM_from_items Try.wf.decls : Try.src.decls.toList.forM (Check.decl Try.src) = .ok ()
forM_from_items Try.wf.entries : (Try.src.inits.push Try.src.main).toList.forM (Check.entry Try.src) = .ok ()
theorem Try.wellFormed : Try.src.check = .ok () :=
  then_ok Try.wf.types (then_ok Try.wf.head (then_ok Try.wf.cutTypes (then_ok Try.wf.globals (then_ok Try.wf.decls Try.wf.entries))))

forM_from_items Try.wt.methods : (List.range Try.src.types.size).forM (Go.CheckTypes.methods Try.src) = .ok ()
forM_from_items Try.wt.decls : Try.src.decls.toList.forM (Go.CheckTypes.decl Try.src) = .ok ()
theorem Try.wellTyped : Try.src.checkTypes = .ok () := then_ok Try.wt.methods Try.wt.decls

-- (twenty-third state; an AI agent of the authors' house's law, Derived/CheckFast.lean) THE CODE's CHECK BY ITS FAST TWIN, which forces each number of a region's 'before' to a numeral as it is laid: a region of some 200 operations outgrew the kernel's memory without it; 'funcAt_eq' carries the result over
forM_from_items Try.co.funcsF : (List.range Try.prog.funcs.size).forM (CheckFast.funcAtF Try.prog) = .ok ()
theorem Try.co.funcs : (List.range Try.prog.funcs.size).forM (CheckCode.funcAt Try.prog) = .ok () := by
  rw [show CheckCode.funcAt Try.prog = CheckFast.funcAtF Try.prog from funext (CheckFast.funcAt_eq Try.prog)]
  exact Try.co.funcsF
forM_from_items Try.co.entries : (Try.prog.inits.push Try.prog.main).toList.forM (CheckCode.entry Try.prog) = .ok ()
theorem Try.codeOk : Try.prog.check = .ok () := then_ok Try.co.funcs Try.co.entries

noncomputable def Try.checked : Checked := ⟨Try.src, Try.prog, Try.wide, Try.wellFormed, Try.wellTyped, Try.elab_eq, Try.codeOk⟩

end Go.Proofs
