import Derived.Test.YtdgmoiflahoihabCPx

namespace Go.Proofs.Ytdgmoiflahoihab
set_option maxRecDepth 100000 in
theorem cp_row3 : [0, 1, 2, 3, 4, 5, 6, 7, 8].all (fun j => cpGood (cpBody 3 j 1) 1 && cpGood (cpBody 3 j 2) 2 && cpGood (cpBody 3 j 3) 3) = true ∧ cpGood (cpBody 3 0 4) 4 = true := ⟨by kernel_rfl, by kernel_rfl⟩
set_option maxRecDepth 100000 in
theorem cp_row4 : [0, 1, 2, 3, 4, 5, 6, 7, 8].all (fun j => cpGood (cpBody 4 j 1) 1 && cpGood (cpBody 4 j 2) 2 && cpGood (cpBody 4 j 3) 3) = true ∧ cpGood (cpBody 4 0 4) 4 = true := ⟨by kernel_rfl, by kernel_rfl⟩
set_option maxRecDepth 100000 in
theorem cp_row5 : [0, 1, 2, 3, 4, 5, 6, 7, 8].all (fun j => cpGood (cpBody 5 j 1) 1 && cpGood (cpBody 5 j 2) 2 && cpGood (cpBody 5 j 3) 3) = true ∧ cpGood (cpBody 5 0 4) 4 = true := ⟨by kernel_rfl, by kernel_rfl⟩
end Go.Proofs.Ytdgmoiflahoihab
